/- Own work. -/
import Derived.Test.YtoblgjledefdbaaGreatDoorQf19
namespace Go.Proofs.YtoblgjledefdbaaGreatDoor.St
open Go.RowKit
def Bk (W:World) (b:Nat) (x:Value) (T:TypeId):Prop:=W.heap[b]? = some (.cells #[x] T (0,0))
section
variable {W W':World} {b:Nat} {x y:Value} {T:TypeId}
theorem Bk.lt (h:Bk W b x T):b<W.heap.size:=(Array.getElem?_eq_some_iff.1 h).1
theorem Bk.both (h:Bk W b x T):W.cell? ⟨b,0,none⟩=some x∧W.frozen? ⟨b,0,none⟩=false:=⟨by rw [cell_of_row W b 0 _ _ (0,0) h]; rfl,frozen_of_row W b 0 _ _ h⟩
theorem Bk.next (h:Bk W b x T) (u:Below W.heap.size W W'):Bk W' b x T:=(u.block b h.lt).trans h
theorem Bk.al (h:Bk W b x T) (o:Obj):Bk (W.alloc o) b x T:=h.next (bal (Below.refl _ _) o)
theorem Bk.four (h:Bk W b x T):W.cell? ⟨b,0,none⟩=some x∧W.frozen? ⟨b,0,none⟩=false∧(∀ o,(W.alloc o).cell? ⟨b,0,none⟩=some x) ∧ ∀ o,(W.alloc o).frozen? ⟨b,0,none⟩=false:=⟨h.both.1,h.both.2,fun o=>(h.al o).both.1,fun o=>(h.al o).both.2⟩
theorem Bk.ne (h:Bk W b x T) : ¬ b=W.heap.size ∧ ¬ W.heap.size=b:=by have:=h.lt; omega
theorem Bk.put (h:Bk W b x T) (y:Value):Bk (W.setCell ⟨b,0,none⟩ y) b y T:=heap_setCell_same W b 0 _ _ y h
theorem Bk.other (h:Bk W b x T) {c i:Nat} (hc:b≠c) (y:Value):Bk (W.setCell ⟨c,i,none⟩ y) b x T:=(Below.heap_setCell _ _ _ _ hc).trans h
theorem bk_new (W:World) (x:Value) (T:TypeId):Bk (W.alloc (.cells #[x] T)) W.heap.size x T:=new1 _ _
theorem bk_one (u:Below (W.alloc (.cells #[x] T)).heap.size (W.alloc (.cells #[x] T)) W'):Bk W' W.heap.size x T:=(bk_new W x T).next u
theorem bk_two {U:TypeId} (u:Below ((W.alloc (.cells #[x] T)).alloc (.cells #[y] U)).heap.size ((W.alloc (.cells #[x] T)).alloc (.cells #[y] U)) W'):Bk W' W.heap.size x T∧Bk W' (W.heap.size+1) y U:=by
 refine ⟨((bk_new W x T).al _).next u,?_⟩
 have h:=bk_new (W.alloc (.cells #[x] T)) y U
 rw [al_size] at h
 exact h.next u
theorem undrew {V:World} (u:Below V.drew.heap.size V.drew W'):Below V.heap.size V W':=⟨u.os,u.tape,u.output,u.size,u.block⟩
theorem bk_oneD (u:Below (W.alloc (.cells #[x] T)).drew.heap.size (W.alloc (.cells #[x] T)).drew W'):Bk W' W.heap.size x T:=bk_one (undrew u)
theorem bk_twoD {U:TypeId} (u:Below ((W.alloc (.cells #[x] T)).alloc (.cells #[y] U)).drew.heap.size ((W.alloc (.cells #[x] T)).alloc (.cells #[y] U)).drew W'):Bk W' W.heap.size x T∧Bk W' (W.heap.size+1) y U:=bk_two (undrew u)
theorem apart {w:World} {B:Nat} {v:Value} {ss:List ByteArray} (o:Rc.OwnS w B v ss) (hb:b<B) : ∀ g,v.ownBlock=some g→g≠b:=fun g hg e=>by
 have:=(World.ownsRow.lt o g hg).1
 omega
end
end Go.Proofs.YtoblgjledefdbaaGreatDoor.St
