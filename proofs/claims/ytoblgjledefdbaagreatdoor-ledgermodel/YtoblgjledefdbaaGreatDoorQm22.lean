/- Own work. -/
import Derived.Shelf.Strings.OnBuilder
import Derived.Shelf.Strings.Repeat
import Derived.Test.YtoblgjledefdbaaGreatDoorQm20
set_option maxRecDepth 100000
set_option maxHeartbeats 8000000
namespace Go.Proofs.YtoblgjledefdbaaGreatDoor
open Go.RowKit
attribute [local go_sem ↓] Go.wp_at_zero Go.wp_at_succ
open Go.Proofs.Tryz
namespace St.Rc
def mC(m:MV):Array Value:=#[.int .i64 m.k,.int .u64 (m.size:Int),.int .u64 (m.items:Int),.int .u64 (m.nodes:Int),.int .u32 (m.chain.toNat:Int)]
def pC(g:Nat):Array Value:=#[.slice (some ⟨g,0,none⟩) 4 4,.slice (some ⟨g,4,none⟩) 1 1,.slice (some ⟨g,8,none⟩) 8 8,.slice (some ⟨g,16,none⟩) 8 8,.slice (some ⟨g,24,none⟩) 8 8,.slice (some ⟨g,32,none⟩) 4 4]
structure Mk(w W:World)(m:MV)(bm g bp:Nat)(l:List UInt8):Prop where
 hm:W.heap[bm]? = some (.cells (mC m) 239 (0,0))
 hp:W.heap[bp]? = some (.cells (pC g) 339 (0,0))
 row:Byt W g l
 len:l.length=64
 nm:bm≠g
 np:bp≠g
 lg:w.heap.size<=g
 bel:Below w.heap.size w W
theorem Mk.cells{w W:World}{m:MV}{bm g bp:Nat}{l:List UInt8}(h:Mk w W m bm g bp l) :
  W.cell? ⟨bm,0,none⟩=some (.int .i64 m.k)∧W.cell? ⟨bm,1,none⟩=some (.int .u64 (m.size:Int))∧W.cell? ⟨bm,2,none⟩=some (.int .u64 (m.items:Int))∧W.cell? ⟨bm,3,none⟩=some (.int .u64 (m.nodes:Int))∧W.cell? ⟨bm,4,none⟩=some (.int .u32 (m.chain.toNat:Int)) ∧
  W.cell? ⟨bp,0,none⟩=some (.slice (some ⟨g,0,none⟩) 4 4)∧W.cell? ⟨bp,1,none⟩=some (.slice (some ⟨g,4,none⟩) 1 1)∧W.cell? ⟨bp,2,none⟩=some (.slice (some ⟨g,8,none⟩) 8 8)∧W.cell? ⟨bp,3,none⟩=some (.slice (some ⟨g,16,none⟩) 8 8)∧W.cell? ⟨bp,4,none⟩=some (.slice (some ⟨g,24,none⟩) 8 8)∧W.cell? ⟨bp,5,none⟩=some (.slice (some ⟨g,32,none⟩) 4 4):=by
 refine⟨?_,?_,?_,?_,?_,?_,?_,?_,?_,?_,?_⟩
 iterate 5 (rw[cell_of_row W bm _ _ _ (0,0) h.hm];rfl)
 iterate 6 (rw[cell_of_row W bp _ _ _ (0,0) h.hp];rfl)
theorem Mk.upo{w W W':World}{m:MV}{bm g bp:Nat}{l l':List UInt8}(h:Mk w W m bm g bp l)(hu:Upo (fun b=>b=g) W W')(hr:Byt W' g l')(hl:l'.length=64):Mk w W' m bm g bp l' :=
 ⟨(hu.block bm (Array.getElem?_eq_some_iff.1 h.hm).1 h.nm).trans h.hm,(hu.block bp (Array.getElem?_eq_some_iff.1 h.hp).1 h.np).trans h.hp,hr,hl,h.nm,h.np,h.lg,hu.since h.bel h.lg⟩
theorem Mk.put{w W:World}{m:MV}{bm g bp:Nat}{l:List UInt8}(h:Mk w W m bm g bp l)(off len n:Nat)(ho:off+len<=64)(h8:len<=8)(hn:n<18446744073709551616) :
  Calls prog 264 #[.slice (some ⟨g,off,none⟩) len len,.int .u64 (n:Int)] W fun e w'=>e = .returned (.tuple #[])∧Mk w w' m bm g bp (ovr l off (big len n)):=by
 refine(Un W g off len len n l h.row (by rw[h.len];exact ho) h8 hn).mono ?_
 rintro e w' ⟨rfl,hy,hu⟩;exact⟨rfl,h.upo hu hy (by rw[QaY _ _ _ (by rw[Ql,h.len];exact ho),h.len])⟩
theorem Qmk(k a b c d:Nat):ovr (ovr (ovr (ovr (ovr (ovr (zer 64) 0 [109,115,102,1]) 4 (big 1 k)) 8 (big 8 a)) 16 (big 8 b)) 24 (big 8 c)) 32 (big 4 d)=UH k a b c d++zer 4:=by
 have xA:zer 64=[]++zer 64:=rfl;rw[xA,YJ [] _ _ 0 rfl,Nd,show([109,115,102,1]:List UInt8).length=4 from rfl,YJ _ _ _ 4 rfl,Ql]
 rw[show zer (64 - 4 - 1)=zer 3++zer 56 from rfl,<-Lq,YJ _ _ _ 8 (by simp[Ql,Qw]),Ql]
 rw[YJ _ _ _ 16 (by simp[Ql,Qw]),Ql,YJ _ _ _ 24 (by simp[Ql,Qw]),Ql,YJ _ _ _ 32 (by simp[Ql,Qw]),Ql]
 rw[UH,show zer (56 - 8 - 8 - 8 - 4)=zer 24++zer 4 from rfl,Lq _ (zer 24)]
theorem Mk.first{w W:World}{m:MV}{bm g bp:Nat}(h:Mk w W m bm g bp (zer 64)) : ∃W',(∀ty,(Builtin.copy_ #[127,9] ty #[.slice (some ⟨g,0,none⟩) 4 4,.string ⟨#[109,115,102,1]⟩]).run prog W = .ok (goInt 4) W')∧Mk w W' m bm g bp (ovr (zer 64) 0 [109,115,102,1]):=by
 refine⟨W.setCells g 0 (cY [109,115,102,1]),fun ty=>QbW ty (k:=0) (n:=4) (m:=4) (o:=0) h.row (by rw[Qw];decide) (fun _=>rfl) (La _),h.upo (Upo.sets (S:=fun b=>b=g) (.inl rfl) _ 0 _ (Upo.refl _ _)) (h.row.over 0 _ (by rw[Qw];decide)) ?_⟩
 rw[QaY _ _ _ (by rw[Qw];decide),Qw]
theorem Mk.seal{w W:World}{m:MV}{bm g bp:Nat}{k a b c d:Nat}(h:Mk w W m bm g bp (ovr (ovr (ovr (ovr (ovr (ovr (zer 64) 0 [109,115,102,1]) 4 (big 1 k)) 8 (big 8 a)) 16 (big 8 b)) 24 (big 8 c)) 32 (big 4 d)))(t:BA)(ht:(⟨(sld (UH k a b c d)).toArray⟩:BA)=t) :
  Calls prog 265 #[.slice (some ⟨g,0,none⟩) 64 64] W fun e w'=>e = .returned (.string t)∧Below w.heap.size w w':=by
 have hr:=h.row;have hl:=h.len;rw[Qmk] at hr hl;have xA:(UH k a b c d++zer 4).take (64 - 4)=UH k a b c d:=by
  rw[Lt (by rw[JJ];decide),Lo (by rw[JJ];decide)]
 refine(U8 W g 64 64 _ hr hl (by decide) (La _) (by decide) t (by rw[xA];exact ht)).mono ?_
 rintro e w' ⟨rfl,_,xB⟩;exact⟨rfl,xB.since h.bel h.lg⟩
theorem QeE(w:World)(m:MV)(h1:m.size<18446744073709551616)(h2:m.items<18446744073709551616)(h3:m.nodes<18446744073709551616)(t:BA)(ht:(⟨(mrk m).toArray⟩:BA)=t) :
  Calls prog 177 #[.agg (mC m)] w fun e w'=>e = .returned (.string t)∧Below w.heap.size w w':=by
 obtain⟨mk,ma,mb,mc,md⟩:=m;have HS:=fun W=>Qab W mk
 have h4:=md.isLt
 by_cases hk:1<=mk∧mk<=32
 ·rw[LA hk] at HS;rw[mrk,Lk hk] at ht;obtain⟨k,rfl⟩ : ∃k:Nat,mk=(k:Int):=⟨mk.toNat,by omega⟩
  simp only[Int.toNat_natCast] at ht h1 h2 h3;have hw:IntKind.u64.wrap (k:Int)=(k:Int):=by rw[IntKind.wrap_u64];omega
  obtain⟨d,hd⟩:=Ze md.toNat;have xJ:IntKind.u64.wrap (d:Int)=(d:Int):=by rw[IntKind.wrap_u64];omega
  have H4:Hid (k<18446744073709551616∧ma<18446744073709551616∧mb<18446744073709551616∧mc<18446744073709551616∧d<18446744073709551616):=⟨by omega,h1,h2,h3,by omega⟩
  have xE : ∀u:World,(Instr.makeSlice 127 (.int .i64 64) (.int .i64 64)).run prog u = .ok (.slice (some ⟨u.heap.size,0,none⟩) 64 64) (u.alloc (.cells (Array.replicate 64 (Value.int .u8 0)) 5)):=fun u=>YT 64 (by decide) u
  have xD:Hid (∀W g,Calls prog 273 #[.slice (some ⟨g,0,none⟩) 64 64] W fun e w'=>e = .returned (mP g)∧Below W.heap.size W w'):=fun W g=>QbF W g 64 64 (by decide)
  obtain⟨xF,hz⟩:=Ze (Array.replicate 64 (Value.int .u8 0));rw[hz] at xE;have HZ:Hid (Array.replicate 64 (Value.int .u8 0)=xF):=hz;have HT:Hid ((⟨(sld (UH k ma mb mc d)).toArray⟩:BA)=t):=by rw[<-hd];exact ht
  clear ht hz h1 h2 h3 h4 hk;unfold mC;rw[hd]
  go_enter func177,ntmps177
  go_upto_region 5 with (first
   | (go_at_call 272;with_reducible refine(HS _).mono ?_;rintro e w1 ⟨rfl,rfl⟩)
   | (go_at_call 273;with_reducible refine(xD.out _ _).mono ?_;rintro e w2 ⟨rfl,hb⟩;unfold mP))
  obtain⟨w3,xC⟩:=Ze (w2.alloc (.cells (pC (w.heap.size+1)) 339));obtain⟨wa,xA⟩:=Ze (w.alloc (.cells (mC ⟨(k:Int),ma,mb,mc,md⟩) 239));have M3:Mk w w3 ⟨(k:Int),ma,mb,mc,md⟩ w.heap.size (w.heap.size+1) w2.heap.size (zer 64):=by
   have xB:=hb;unfold mC at xA;rw[hd] at xA;rw[xA] at xB;have xI:wa.heap.size=w.heap.size+1:=by rw[<-xA];simp
   have y0:Byt (wa.alloc (.cells xF 5)) (w.heap.size+1) (zer 64):=by
    rw[<-HZ.out,<-xI];exact OB wa 64
   have s2:w.heap.size+2<=w2.heap.size:=by have:=xB.size;simp at this;omega
   have y2:=y0.next xB (by simp;omega)
   have m2:w2.heap[w.heap.size]? = some (.cells (mC ⟨(k:Int),ma,mb,mc,md⟩) 239 (0,0)):=by
    rw[xB.block _ (by simp;omega),(MapKept.heap_alloc wa _).2 _ (by omega),<-xA,Yq]
    unfold mC;rw[hd]
   have b2:Below w.heap.size w w2:=Qa (by rw[<-xA];exact bal (bal (Lb _ _) _) _) xB
   rw[<-xC];exact⟨(MapKept.heap_alloc w2 _).2 _ (by omega) |>.trans m2,Yq _ _,y2.same ((MapKept.heap_alloc w2 _).2 _ (by omega)),Qw _,by omega,by omega,by omega,bal b2 _⟩
  unfold pC at xC;rw[xC];generalize w.heap.size+1=g at *;generalize w2.heap.size=bp at *;obtain⟨w4,xH,M⟩:=M3.first;have HM:Hid (∀W l,Mk w W ⟨(k:Int),ma,mb,mc,md⟩ w.heap.size g bp l->W.cell? ⟨w.heap.size,0,none⟩=some (.int .i64 (k:Int))∧W.cell? ⟨w.heap.size,1,none⟩=some (.int .u64 (ma:Int))∧W.cell? ⟨w.heap.size,2,none⟩=some (.int .u64 (mb:Int))∧W.cell? ⟨w.heap.size,3,none⟩=some (.int .u64 (mc:Int))∧W.cell? ⟨w.heap.size,4,none⟩=some (.int .u32 (d:Int)) ∧
    W.cell? ⟨bp,0,none⟩=some (.slice (some ⟨g,0,none⟩) 4 4)∧W.cell? ⟨bp,1,none⟩=some (.slice (some ⟨g,4,none⟩) 1 1)∧W.cell? ⟨bp,2,none⟩=some (.slice (some ⟨g,8,none⟩) 8 8)∧W.cell? ⟨bp,3,none⟩=some (.slice (some ⟨g,16,none⟩) 8 8)∧W.cell? ⟨bp,4,none⟩=some (.slice (some ⟨g,24,none⟩) 8 8)∧W.cell? ⟨bp,5,none⟩=some (.slice (some ⟨g,32,none⟩) 4 4)):=fun W l h=>by
   have:=h.cells;simp only[hd] at this;exact this
  have p0:=(HM.out _ _ M3).2.2.2.2.2.1;obtain⟨c0,c1,c2,c3,c4,_,q1,q2,q3,q4,q5⟩:=HM.out _ _ M;clear xC hd hb xD HS xE xA
  go_wp2_with (first
   | (refine Uv (by rfl) _ _ _ _ (by rfl) (by rfl) (by rfl) (xH _) ?_)
   | (go_at_call 264;(first
     | (with_reducible refine(M.put 4 1 k (by decide) (by decide) H4.out.1).mono ?_)
     | (with_reducible refine(M.put 8 8 ma (by decide) (by decide) H4.out.2.1).mono ?_)
     | (with_reducible refine(M.put 16 8 mb (by decide) (by decide) H4.out.2.2.1).mono ?_)
     | (with_reducible refine(M.put 24 8 mc (by decide) (by decide) H4.out.2.2.2.1).mono ?_)
     | (with_reducible refine(M.put 32 4 d (by decide) (by decide) H4.out.2.2.2.2).mono ?_));rintro e w5 ⟨rfl,M⟩;obtain⟨c0,c1,c2,c3,c4,_,q1,q2,q3,q4,q5⟩:=HM.out _ _ M)
   | (go_at_call 265;with_reducible refine(M.seal t HT.out).mono ?_;rintro e w6 ⟨rfl,xG⟩))
  go_ret
  exact⟨rfl,xG⟩
 ·rw[Ls hk] at HS;rw[mrk,Le hk] at ht;subst ht;unfold mC
  go_enter func177,ntmps177
  go_wp2_with (go_at_call 272;with_reducible refine(HS _).mono ?_;rintro e w1 ⟨rfl,rfl⟩)
  go_ret
  exact⟨rfl,bal (Lb _ _) _⟩
end St.Rc
namespace St
open Rc
theorem bdw{B:Nat}{w W:World}(h:Below B w W):Below B w W.drew:=⟨h.os,h.tape,h.output,h.size,h.block⟩
theorem QoW{w W:World}(h:Below w.heap.size w W){g:Nat}(hg:w.heap.size<=g)(a b c d e:Value):Below w.heap.size w (((((W.setCell ⟨g,0,none⟩ a).setCell ⟨g,1,none⟩ b).setCell ⟨g,2,none⟩ c).setCell ⟨g,3,none⟩ d).setCell ⟨g,4,none⟩ e) :=
 Upo.below (S:=fun _=>False) (((((Upo.of h).set g 0 a (.inr hg)).set g 1 b (.inr hg)).set g 2 c (.inr hg)).set g 3 d (.inr hg) |>.set g 4 e (.inr hg)) (La _) (fun _ q=>q.elim)
theorem Qm1{W:World}{g:Nat}{x0 x1 x2 x3 x4:Value}{T:TypeId}(h:W.heap[g]? = some (.cells #[x0,x1,x2,x3,x4] T (0,0)))(a b c d e:Value):(((((W.setCell ⟨g,0,none⟩ a).setCell ⟨g,1,none⟩ b).setCell ⟨g,2,none⟩ c).setCell ⟨g,3,none⟩ d).setCell ⟨g,4,none⟩ e).heap[g]? = some (.cells #[a,b,c,d,e] T (0,0)):=by
 have h1:(W.setCell ⟨g,0,none⟩ a).heap[g]? = some (.cells #[a,x1,x2,x3,x4] T (0,0)):=Lp W g 0 _ _ a h;have h2:((W.setCell ⟨g,0,none⟩ a).setCell ⟨g,1,none⟩ b).heap[g]? = some (.cells #[a,b,x2,x3,x4] T (0,0)):=Lp _ g 1 _ _ b h1;have h3:(((W.setCell ⟨g,0,none⟩ a).setCell ⟨g,1,none⟩ b).setCell ⟨g,2,none⟩ c).heap[g]? = some (.cells #[a,b,c,x3,x4] T (0,0)):=Lp _ g 2 _ _ c h2;have h4:((((W.setCell ⟨g,0,none⟩ a).setCell ⟨g,1,none⟩ b).setCell ⟨g,2,none⟩ c).setCell ⟨g,3,none⟩ d).heap[g]? = some (.cells #[a,b,c,d,x4] T (0,0)):=Lp _ g 3 _ _ d h3;exact Lp _ g 4 _ _ e h4
section
variable {q p:Nat} {T:Nat->Prop} {D:DV} {S:SV}
theorem QnV(c:BitVec 32)(s:List UInt8)(ss:LB):chn c s ss<4294967296:=Qjx _
theorem Qcu(w:World)(h:Sk w q p T D S)(s:BA)(hs:s.size<=1073741824)(ao:OA)(b off len cap:Nat)(ss:LB)(hr:Rc.RdS w ao b off len ss)(hmx:len<=9223372036854775807)(m:MV)(hm:nxM S.k S.ends S.chain s.data.toList ss=m) :
  Calls prog 169 #[.pointer (some ⟨q,0,none⟩),.string s,.slice ao len cap] w fun e w'=>e = .returned (.agg (mC m))∧Below w.heap.size w w':=by
 obtain⟨xI,xJ,hf,_,_,hl⟩:=h.small;have hb:=Od (S.ends.length+1);have xH:=QnV S.chain s.data.toList ss;obtain⟨cv,xE⟩:=Ze (chn S.chain s.data.toList ss);have hz:=Qb s;have em:mC m=#[.int .i64 (S.k:Int),.int .u64 ((S.ends.length:Int)+1),.int .u64 ((lst S.ends:Int)+(s.size:Int)),.int .u64 ((nn (S.ends.length+1):Int)*40),.int .u32 (cv:Int)]:=by
  rw[<-hm,mC,nxM,hz,xE];simp only[BitVec.toNat_ofNat];rw[Nn (by omega)]
  simp
 rw[em];obtain⟨w1,xC⟩:=Ze (w.alloc (.cells #[.int .i64 0,.int .u64 0,.int .u64 0,.int .u64 0,.int .u32 0] 239));have u1:Below w.heap.size w w1:=by rw[<-xC];exact bal (Lb _ _) _
 obtain⟨bo,xD⟩:=Ze w.heap.size;obtain⟨ea,ec,xB⟩:=h.seen;have HC:Hid (∀W,Below w.heap.size w W->W.cell? ⟨q,1,none⟩=some (.int .i64 (S.k:Int))∧W.cell? ⟨q,2,none⟩=some (.slice ea S.ends.length ec)∧W.cell? ⟨q,3,none⟩=some (.int .u32 (S.chain.toNat:Int))):=fun W hW=>⟨(xB W hW).2.1,(xB W hW).2.2.1,(xB W hW).2.2.2.1⟩
 have HS:Hid (∀W,Below w.heap.size w W->Calls prog 74 #[.pointer (some ⟨q,0,none⟩)] W fun e w'=>e = .returned (.int .u64 (S.ends.length:Int))∧w'=W):=fun W hW=>Yo W (h.next hW)
 have HL:Hid (∀W,Below w.heap.size w W->Calls prog 155 #[.pointer (some ⟨q,0,none⟩),.string ⟨#[105,116,101,109,115]⟩] W fun e w'=>e = .returned (.int .i64 (lst S.ends:Int))∧w'=W):=fun W hW=>YH W (h.next hW)
 have HN:Hid (∀W,Calls prog 245 #[.int .i64 ((S.ends.length:Int)+1)] W fun e w'=>e = .returned (.int .u64 (nn (S.ends.length+1):Int))∧w'=W):=fun W=>by
  have:=Q3 W (S.ends.length+1) (by omega)
  rw[IK] at this;exact this
 have HK:Hid (∀W,Below w.heap.size w W->Calls prog 267 #[.int .u32 (S.chain.toNat:Int),.string s,.slice ao len cap] W fun e w'=>e = .returned (.int .u32 (cv:Int))∧Below w.heap.size w w'∧Below W.heap.size W w'):=fun W hW =>
  (QhP W S.chain s (by omega) ao b off len cap ss (hr.next hW (La _)) hmx cv xE).mono fun e w' z=>⟨z.1,Qa hW z.2,z.2⟩
 clear hr xB h hm em xE hz xH;generalize S.chain.toNat=cc at *;generalize nn (S.ends.length+1)=m1 at *;generalize lst S.ends=l1 at *;generalize S.k=k at *;generalize S.ends.length=n at *;generalize hsz:s.size=sz at *;have e1:IntKind.u64.wrap ((n:Int)+1)=(n:Int)+1:=YD _ (by omega) (by omega)
 have e2:IntKind.i64.wrap ((n:Int)+1)=(n:Int)+1:=by rw[Lr];omega
 have e3:IntKind.i64.wrap ((l1:Int)+(sz:Int))=(l1:Int)+(sz:Int):=by rw[Lr];omega
 have e4:IntKind.u64.wrap ((l1:Int)+(sz:Int))=(l1:Int)+(sz:Int):=YD _ (by omega) (by omega)
 have e5:IntKind.u64.wrap ((m1:Int)*40)=(m1:Int)*40:=YD _ (by omega) (by omega)
 have H5:Hid (∀W a b c d e,Below w.heap.size w W->Below w.heap.size w (((((W.setCell ⟨bo,0,none⟩ a).setCell ⟨bo,1,none⟩ b).setCell ⟨bo,2,none⟩ c).setCell ⟨bo,3,none⟩ d).setCell ⟨bo,4,none⟩ e)):=fun W a b c d e hW=>QoW hW (by omega) a b c d e
 have xF:Hid (∀W a b c d e,Below w.heap.size w W->(((((W.setCell ⟨bo,0,none⟩ a).setCell ⟨bo,1,none⟩ b).setCell ⟨bo,2,none⟩ c).setCell ⟨bo,3,none⟩ d).setCell ⟨bo,4,none⟩ e).cell? ⟨q,1,none⟩=some (.int .i64 (k:Int))∧(((((W.setCell ⟨bo,0,none⟩ a).setCell ⟨bo,1,none⟩ b).setCell ⟨bo,2,none⟩ c).setCell ⟨bo,3,none⟩ d).setCell ⟨bo,4,none⟩ e).cell? ⟨q,2,none⟩=some (.slice ea n ec)∧(((((W.setCell ⟨bo,0,none⟩ a).setCell ⟨bo,1,none⟩ b).setCell ⟨bo,2,none⟩ c).setCell ⟨bo,3,none⟩ d).setCell ⟨bo,4,none⟩ e).cell? ⟨q,3,none⟩=some (.int .u32 (cc:Int))):=fun W a b c d e hW=>HC.out _ (H5.out W a b c d e hW)
 have HW:=Qd xC;have HB:=Qd xD;have xA:w1.heap[bo]? = some (.cells #[.int .i64 0,.int .u64 0,.int .u64 0,.int .u64 0,.int .u32 0] 239 (0,0)):=by rw[<-xC,<-xD];exact Yq _ _
 have HO:Hid (∀W,Below w1.drew.heap.size w1.drew W -> ∀j,W.frozen? ⟨bo,j,none⟩=false):=fun W hW j=>frozen_of_row W bo j _ _ ((hW.block bo (Array.getElem?_eq_some_iff.1 xA).1).trans xA)
 have HP:Hid (∀W,Below w1.drew.heap.size w1.drew W->W.heap[bo]? = some (.cells #[.int .i64 0,.int .u64 0,.int .u64 0,.int .u64 0,.int .u32 0] 239 (0,0))):=fun W hW=>(hW.block bo (Array.getElem?_eq_some_iff.1 xA).1).trans xA
 clear xA;clear xC xD
 go_enter func169,ntmps169
 go_upto_region 1 with (fail)
 rw[HW.out,HB.out];have u:=bdw u1
 go_region_held3 (fun Z=>Z.cell? ⟨q,1,none⟩=some (.int .i64 (k:Int))∧Z.cell? ⟨q,2,none⟩=some (.slice ea n ec)∧Z.cell? ⟨q,3,none⟩=some (.int .u32 (cc:Int))) (first|assumption|(with_reducible exact xF.out _ _ _ _ _ _ u)|(with_reducible exact HC.out _ u)) (first
  | (go_at_call 74;(with_reducible refine(HS.out _ u).mono ?_);rintro e w2 ⟨rfl,rfl⟩)
  | (go_at_call 155;(with_reducible refine(HL.out _ u).mono ?_);rintro e w2 ⟨rfl,rfl⟩)
  | (go_at_call 245;(with_reducible refine(HN.out _).mono ?_);rintro e w2 ⟨rfl,rfl⟩)
  | (go_at_call 267;(with_reducible refine(HK.out _ u).mono ?_);rintro e w2 ⟨rfl,u,u2⟩;have xG:=HO.out _ u2;have ⟨b0,b1,b2,b3,b4⟩:=Yn (HP.out _ u2)))
 all_goals
  have z5:=H5.out w2 (.int .i64 (k:Int)) (.int .u64 ((n:Int)+1)) (.int .u64 ((l1:Int)+(sz:Int))) (.int .u64 ((m1:Int)*40)) (.int .u32 (cv:Int)) u;have z6:=Yn (Qm1 (HP.out _ u2) (.int .i64 (k:Int)) (.int .u64 ((n:Int)+1)) (.int .u64 ((l1:Int)+(sz:Int))) (.int .u64 ((m1:Int)*40)) (.int .u32 (cv:Int)));clear H5 xF HC HS HL HN HK HO HP xG b0 b1 b2 b3 b4;generalize (((((w2.setCell ⟨bo,0,none⟩ (.int .i64 (k:Int))).setCell ⟨bo,1,none⟩ (.int .u64 ((n:Int)+1))).setCell ⟨bo,2,none⟩ (.int .u64 ((l1:Int)+(sz:Int)))).setCell ⟨bo,3,none⟩ (.int .u64 ((m1:Int)*40))).setCell ⟨bo,4,none⟩ (.int .u32 (cv:Int)))=wz at *;obtain⟨y0,y1,y2,y3,y4⟩:=z6
  repeat go_step
  exact Lv (v := .agg #[.int .i64 (k:Int),.int .u64 ((n:Int)+1),.int .u64 ((l1:Int)+(sz:Int)),.int .u64 ((m1:Int)*40),.int .u32 (cv:Int)]) (by simp[results,results169,go_sem,y0,y1,y2,y3,y4]) rfl ⟨rfl,z5⟩
end
end St
namespace St
open Go.Shelf
def Tryz.lays156_ren:Go.Shelf.Ren:=⟨fun|156=>173|165=>269|166=>270|169=>271|240=>345|241=>346|276=>395|277=>396|n=>n,fun|31=>22|9=>9|3=>3|4=>4|0=>0|20=>20|72=>330|76=>334|70=>328|37=>127|75=>333|127=>392|164=>320|5=>5|80=>336|n=>n,fun|n=>n⟩
theorem Tryz.lays156:Go.Proofs.Lays.n156 prog Tryz.lays156_ren := {
 mixed:=by kernel_rfl
 f156:=func173.trans (Lw some (by kernel_rfl))
 f165:=func269.trans (Lw some (by kernel_rfl))
 f166:=func270.trans (Lw some (by kernel_rfl))
 f169:=func271.trans (Lw some (by kernel_rfl))
 f240:=func345.trans (Lw some (by kernel_rfl))
 f241:=func346.trans (Lw some (by kernel_rfl))
 f276:=func395.trans (Lw some (by kernel_rfl))
 f277:=func396.trans (Lw some (by kernel_rfl))
 t0:=underlying0
 a0:=Tryz.isAgg0
 z0:=Tryz.sizeOf0
 v0:=Tryz.zeroValue0
 t3:=underlying3
 a3:=Tryz.isAgg3
 z3:=Tryz.sizeOf3
 v3:=Tryz.zeroValue3
 t4:=underlying4
 a4:=Tryz.isAgg4
 z4:=Tryz.sizeOf4
 v4:=Tryz.zeroValue4
 t9:=underlying9
 a9:=Tryz.isAgg9
 z9:=Tryz.sizeOf9
 v9:=Tryz.zeroValue9
 t20:=underlying20
 a20:=Tryz.isAgg20
 z20:=Tryz.sizeOf20
 v20:=Tryz.zeroValue20
 t31:=underlying22
 a31:=Tryz.isAgg22
 z31:=Tryz.sizeOf22
 v31:=Tryz.zeroValue22
 t37:=underlying127
 a37:=Tryz.isAgg127
 z37:=Tryz.sizeOf127
 v37:=Tryz.zeroValue127
 t70:=underlying328
 a70:=Tryz.isAgg328
 z70:=Tryz.sizeOf328
 v70:=Tryz.zeroValue328
 t72:=underlying330
 a72:=Tryz.isAgg330
 z72:=Tryz.sizeOf330
 v72:=Tryz.zeroValue330
 t75:=underlying333
 a75:=Tryz.isAgg333
 z75:=Tryz.sizeOf333
 v75:=Tryz.zeroValue333
 t76:=underlying334
 a76:=Tryz.isAgg334
 z76:=Tryz.sizeOf334
 v76:=Tryz.zeroValue334
 t127:=underlying392
 a127:=Tryz.isAgg392
 z127:=Tryz.sizeOf392
 v127:=Tryz.zeroValue392
 t164:=underlying320
 a164:=Tryz.isAgg320
 z164:=Tryz.sizeOf320
 v164:=Tryz.zeroValue320 }
theorem Tryz.Builder_Extra_156:Builder.Extra prog Tryz.lays156_ren := {
 sizeBuilder:=by kernel_rfl
 liesBuilder:=by kernel_rfl
 t5:=underlying5
 a5:=Tryz.isAgg5
 z5:=Tryz.sizeOf5
 v5:=Tryz.zeroValue5
 infoByte:=by kernel_rfl
 cellsByte:=by kernel_rfl
 sizeByte:=by kernel_rfl
 neB5:=by decide }
open Go.RowKit in
theorem Tryz.strings_Join_none(a:OA)(c:Nat)(sep:BA)(w:World) :
  Calls prog 173 #[.slice a 0 c,.string sep] w fun e w'=>e = .returned (.string ⟨#[]⟩)∧w'=w:=Any.strings_Join_none Tryz.lays156 Tryz.Builder_Extra_156 a c sep w
open Go.RowKit in
theorem Tryz.strings_Join(bk o c:Nat)(xs:LB)(sep:BA)(w:World)(hcells : ∀(j:Nat) x,xs[j]? = some x->w.cell? ⟨bk,o+j,none⟩=some (.string x))(hbk:bk<w.heap.size)(hN:xs.length<=140737488355328)(hcap:xs.length<=c)(hlen:(Lib.join (xs.map (·.data.toList)) sep.data.toList).length<=140737488355328) :
  Calls prog 173 #[.slice (some ⟨bk,o,none⟩) xs.length c,.string sep] w fun e w'=>e = .returned (.string ⟨(Lib.join (xs.map (·.data.toList)) sep.data.toList).toArray⟩)∧Below w.heap.size w w':=Any.strings_Join Tryz.lays156 Tryz.Builder_Extra_156 bk o c xs sep w hcells hbk hN hcap hlen
def Tryz.lays105_ren:Go.Shelf.Ren:=⟨fun|105=>242|212=>325|99=>326|165=>269|166=>270|170=>327|169=>271|263=>390|264=>391|206=>392|240=>345|241=>346|276=>395|277=>396|n=>n,fun|9=>9|3=>3|4=>4|20=>20|0=>0|46=>276|109=>380|5=>5|72=>330|76=>334|51=>110|146=>414|53=>48|148=>416|70=>328|37=>127|75=>333|127=>392|164=>320|80=>336|n=>n,fun|n=>n⟩
theorem Tryz.lays105:Go.Proofs.Lays.n105 prog Tryz.lays105_ren := {
 mixed:=by kernel_rfl
 f99:=func326.trans (Lw some (by kernel_rfl))
 f105:=func242.trans (Lw some (by kernel_rfl))
 f165:=func269.trans (Lw some (by kernel_rfl))
 f166:=func270.trans (Lw some (by kernel_rfl))
 f169:=func271.trans (Lw some (by kernel_rfl))
 f170:=func327.trans (Lw some (by kernel_rfl))
 f206:=func392.trans (Lw some (by kernel_rfl))
 f212:=func325.trans (Lw some (by kernel_rfl))
 f240:=func345.trans (Lw some (by kernel_rfl))
 f241:=func346.trans (Lw some (by kernel_rfl))
 f263:=func390.trans (Lw some (by kernel_rfl))
 f264:=func391.trans (Lw some (by kernel_rfl))
 f276:=func395.trans (Lw some (by kernel_rfl))
 f277:=func396.trans (Lw some (by kernel_rfl))
 t0:=underlying0
 a0:=Tryz.isAgg0
 z0:=Tryz.sizeOf0
 v0:=Tryz.zeroValue0
 t3:=underlying3
 a3:=Tryz.isAgg3
 z3:=Tryz.sizeOf3
 v3:=Tryz.zeroValue3
 t4:=underlying4
 a4:=Tryz.isAgg4
 z4:=Tryz.sizeOf4
 v4:=Tryz.zeroValue4
 t5:=underlying5
 a5:=Tryz.isAgg5
 z5:=Tryz.sizeOf5
 v5:=Tryz.zeroValue5
 t9:=underlying9
 a9:=Tryz.isAgg9
 z9:=Tryz.sizeOf9
 v9:=Tryz.zeroValue9
 t20:=underlying20
 a20:=Tryz.isAgg20
 z20:=Tryz.sizeOf20
 v20:=Tryz.zeroValue20
 t37:=underlying127
 a37:=Tryz.isAgg127
 z37:=Tryz.sizeOf127
 v37:=Tryz.zeroValue127
 t46:=underlying276
 a46:=Tryz.isAgg276
 z46:=Tryz.sizeOf276
 v46:=Tryz.zeroValue276
 t51:=underlying110
 a51:=Tryz.isAgg110
 z51:=Tryz.sizeOf110
 v51:=Tryz.zeroValue110
 t53:=underlying48
 a53:=Tryz.isAgg48
 z53:=Tryz.sizeOf48
 v53:=Tryz.zeroValue48
 t70:=underlying328
 a70:=Tryz.isAgg328
 z70:=Tryz.sizeOf328
 v70:=Tryz.zeroValue328
 t72:=underlying330
 a72:=Tryz.isAgg330
 z72:=Tryz.sizeOf330
 v72:=Tryz.zeroValue330
 t75:=underlying333
 a75:=Tryz.isAgg333
 z75:=Tryz.sizeOf333
 v75:=Tryz.zeroValue333
 t76:=underlying334
 a76:=Tryz.isAgg334
 z76:=Tryz.sizeOf334
 v76:=Tryz.zeroValue334
 t109:=underlying380
 a109:=Tryz.isAgg380
 z109:=Tryz.sizeOf380
 v109:=Tryz.zeroValue380
 t127:=underlying392
 a127:=Tryz.isAgg392
 z127:=Tryz.sizeOf392
 v127:=Tryz.zeroValue392
 t146:=underlying414
 a146:=Tryz.isAgg414
 z146:=Tryz.sizeOf414
 v146:=Tryz.zeroValue414
 t148:=underlying416
 a148:=Tryz.isAgg416
 z148:=Tryz.sizeOf416
 v148:=Tryz.zeroValue416
 t164:=underlying320
 a164:=Tryz.isAgg320
 z164:=Tryz.sizeOf320
 v164:=Tryz.zeroValue320 }
theorem Tryz.Builder_Extra_105:Builder.Extra prog Tryz.lays105_ren := {
 sizeBuilder:=by kernel_rfl
 liesBuilder:=by kernel_rfl
 t5:=underlying5
 a5:=Tryz.isAgg5
 z5:=Tryz.sizeOf5
 v5:=Tryz.zeroValue5
 infoByte:=by kernel_rfl
 cellsByte:=by kernel_rfl
 sizeByte:=by kernel_rfl
 neB5:=by decide }
open Go.RowKit Go.Lib in
theorem Tryz.strings_Repeat_main(s:BA)(c:Nat)(w:World)(hc2:2<=c)(hc:c<=9223372036854775807)(hlen:s.size*c<=140737488355328)(h0:0<s.size) :
  Calls prog 242 #[.string s,.int .i64 c] w fun e w'=>e = .returned (.string ⟨(Lib.repeatL s.data.toList c).toArray⟩)∧Below w.heap.size w w':=Any.strings_Repeat_main Tryz.lays105 Tryz.Builder_Extra_105 s c w hc2 hc hlen h0
end St
end Go.Proofs.YtoblgjledefdbaaGreatDoor
