/- Own work. -/
import Derived.Test.YtoblgjledefdbaaGreatDoorQm34
import Derived.Test.YtoblgjledefdbaaGreatDoorQm35
set_option maxRecDepth 100000
namespace Go.Proofs.YtoblgjledefdbaaGreatDoor
open Go.RowKit
attribute [local go_sem ↓] Go.wp_at_zero Go.wp_at_succ
open Go.Proofs.Tryz
section
open Cv (RdC zl cU)
theorem QZ{w w':World}{B T s n:Nat}{x:Value}{cs:List Value}(h:w.ownsRow B T s x n cs)(hk : ∀g,x.ownBlock=some g->B<=g->w'.heap[g]? = w.heap[g]?):w'.ownsRow B T s x n cs:=by
 obtain⟨h1,h2⟩:=h;refine⟨h1,?_⟩
 rcases h2 with h2|⟨g,cap,cur,rfl,hg,hh,h3⟩
 ·exact .inl h2
 ·exact .inr ⟨g,cap,cur,rfl,hg,(hk g rfl hg).trans hh,h3⟩
structure ChT(S:Nat->Prop)(w w':World):Prop where
 os:w'.os=w.os
 tape:w'.tape=w.tape
 output:w'.output=w.output
 size:w'.heap.size=w.heap.size
 block : ∀b,¬S b->w'.heap[b]? = w.heap[b]?
theorem ChT.refl(S:Nat->Prop)(w:World):ChT S w w:=⟨rfl,rfl,rfl,rfl,fun _ _=>rfl⟩
theorem ChT.set{S:Nat->Prop}{w w':World}(h:ChT S w w')(b i:Nat)(v:Value)(hb:S b):ChT S w (w'.setCell ⟨b,i,none⟩ v):=by
 have h0:=(Lb 0 w').setCell (p:=⟨b,i,none⟩) (Ll _) v;refine⟨h0.os.trans h.os,h0.tape.trans h.tape,h0.output.trans h.output,by rw[<-h.size];simp,fun c hc => ?_⟩
 rw[<-h.block c hc];exact Below.heap_setCell _ _ _ _ (by show c≠b;rintro rfl;exact hc hb)
def Six(w:World)(s:Nat)(a b c d e f:Value):Prop:=w.heap[s]? = some (.cells #[a,b,c,d,e,f] 138 (0,0))
section
variable {w W:World} {s:Nat} {a b c d e f:Value}
theorem Six.cells(h:Six w s a b c d e f):w.cell? ⟨s,0,none⟩=some a∧w.cell? ⟨s,1,none⟩=some b∧w.cell? ⟨s,2,none⟩=some c∧w.cell? ⟨s,3,none⟩=some d∧w.cell? ⟨s,4,none⟩=some e∧w.cell? ⟨s,5,none⟩=some f :=
 ⟨by rw[cell_of_row w s 0 _ _ (0,0) h];rfl,by rw[cell_of_row w s 1 _ _ (0,0) h];rfl,by rw[cell_of_row w s 2 _ _ (0,0) h];rfl,by rw[cell_of_row w s 3 _ _ (0,0) h];rfl,by rw[cell_of_row w s 4 _ _ (0,0) h];rfl,by rw[cell_of_row w s 5 _ _ (0,0) h];rfl⟩
theorem Six.fz(h:Six w s a b c d e f)(j:Nat):w.frozen? ⟨s,j,none⟩=false:=frozen_of_row w s j _ _ h
theorem Six.lt(h:Six w s a b c d e f):s<w.heap.size:=(Array.getElem?_eq_some_iff.1 h).1
theorem Six.same(h:Six w s a b c d e f)(hb:W.heap[s]? = w.heap[s]?):Six W s a b c d e f:=hb.trans h
theorem Six.next(h:Six w s a b c d e f)(hb:Below w.heap.size w W):Six W s a b c d e f:=h.same (hb.block s h.lt)
theorem Qaa(w:World)(a b c d e f:Value):Six (w.alloc (.cells #[a,b,c,d,e,f] 138)) w.heap.size a b c d e f:=LH w _
def Jy(w:World)(s:Nat)(a b c d e f:Value):World:=(((((w.setCell ⟨s,0,none⟩ a).setCell ⟨s,1,none⟩ b).setCell ⟨s,2,none⟩ c).setCell ⟨s,3,none⟩ d).setCell ⟨s,4,none⟩ e).setCell ⟨s,5,none⟩ f
theorem Six.put(h:Six w s a b c d e f)(a' b' c' d' e' f':Value):Six (Jy w s a' b' c' d' e' f') s a' b' c' d' e' f':=by
 have h0:=Lp w s 0 _ _ a' h;have h1:=Lp _ s 1 _ _ b' h0;have h2:=Lp _ s 2 _ _ c' h1;have h3:=Lp _ s 3 _ _ d' h2;have h4:=Lp _ s 4 _ _ e' h3;exact Lp _ s 5 _ _ f' h4
theorem Yy(w:World)(s:Nat)(a b c d e f:Value):ChT (fun x=>x=s) w (Jy w s a b c d e f) :=
 ((((((ChT.refl (fun x=>x=s) w).set s 0 a rfl).set s 1 b rfl).set s 2 c rfl).set s 3 d rfl).set s 4 e rfl).set s 5 f rfl
end
theorem ChT.below{S:Nat->Prop}{w w':World}(h:ChT S w w'){B:Nat}(hS : ∀b,S b->B<=b):Below B w w' :=
 ⟨h.os,h.tape,h.output,N9 h.size.symm,fun b hb=>h.block b fun hs=>by have:=hS b hs;omega⟩
abbrev noP:Value := .agg #[.int .i64 0,.int .i64 0,.int .u64 0,.int .u64 0,.slice none 0 0,.slice none 0 0]
structure RdU(w:World)(ao:OA)(b off len:Nat)(l:List Nat):Prop where
 hl:l.length=len
 ptr:0<len->ao=some ⟨b,off,none⟩
 rng:w.rangeAt b off (cU l)
theorem RdU.at{w:World}{ao:OA}{b off len:Nat}{l:List Nat}(h:RdU w ao b off len l){j:Nat}(hj:j<len):w.cell? ⟨b,off+j,none⟩=some (.int .u64 (l.getD j 0:Nat)) :=
 h.rng j _ (by have:=h.hl;simp[List.getElem?_eq_getElem (show j<l.length by omega),List.getD_eq_getElem?_getD])
theorem RdU.lt{w:World}{ao:OA}{b off len:Nat}{l:List Nat}(h:RdU w ao b off len l)(h0:0<len):b<w.heap.size:=Ln w _ (h.at h0)
theorem RdU.next{w W:World}{ao:OA}{b off len:Nat}{l:List Nat}(h:RdU w ao b off len l)(hb:Below w.heap.size w W):RdU W ao b off len l:=by
 refine⟨h.hl,h.ptr,fun j v hv => ?_⟩
 have:=h.rng j v hv;exact(hb.cell (Ln w _ this)).trans this
theorem Qhi{w:World}{ao:OA}{b off len cap:Nat}{l:List Nat}(h:RdU w ao b off len l)(hn:ao=none->cap=0):RdC w (.slice ao len cap) len (cU l):=by
 refine⟨ao,cap,rfl,fun e=>⟨?_,hn e⟩,fun ad ha j c hj => ?_⟩
 ·apply Classical.byContradiction
  intro h0;have:=h.ptr (by omega)
  rw[e] at this
  cases this
 ·have xA:j<len:=by have:=(List.getElem?_eq_some_iff.1 hj).1;rw[Nc,h.hl] at this;exact this
  have:=h.ptr (by omega)
  rw[ha] at this
  cases this;rw[Addr.add_mid];exact h.rng j c hj
theorem Qiq{w:World}{B:Nat}{v:Value}{l:List Nat}(h:Cv.Own w B v l)(h0:0<l.length) : ∃g cap,v = .slice (some ⟨g,0,none⟩) l.length cap∧B<=g∧l.length<=cap∧cap<=maxLen∧g<w.heap.size:=by
 obtain⟨h1,h2⟩:=h
 rcases h2 with ⟨_,h2⟩|⟨g,cap,cur,hv,hg,hh,hc,hm,_⟩
 ·omega
 ·exact⟨g,cap,hv,hg,hc,hm,(Array.getElem?_eq_some_iff.1 hh).1⟩
theorem Qhe{w:World}{B g n c:Nat}{l l':List Nat}(o:Cv.Own w B (.slice (some ⟨g,0,none⟩) n c) (l++l')):RdU w (some ⟨g,0,none⟩) g 0 l.length l :=
 ⟨rfl,fun _=>rfl,fun t v hv=>by
  have:=o.cells (g:=g) rfl t v (by rw[show cU (l++l')=cU l++cU l' from L5,Ly (by have:=(List.getElem?_eq_some_iff.1 hv).1;simpa using this)];exact hv)
  rwa [Addr.add_mid] at this⟩
section
variable {q:Nat} {w w1 w2:World}
end
end
def num(n:Nat):List UInt8:=if n<128 then [UInt8.ofNat n] else UInt8.ofNat (n % 128+128)::num (n / 128)
termination_by n
decreasing_by omega
theorem OU{n:Nat}(h:n<128):num n=[UInt8.ofNat n]:=by rw[num,Lk h]
theorem Jv{n:Nat}(h:128<=n):num n=UInt8.ofNat (n % 128+128)::num (n / 128):=by rw[num,Le (by omega)]
theorem Qms(n:Nat):0<(num n).length:=by
 by_cases h:n<128
 ·rw[OU h];simp
 ·rw[Jv (by omega)];simp
def YL:List UInt8->Nat->Nat->Nat×Nat×Nat
 | [],_,_=>(0,60,0)
 | b::r,i,n =>
  if i=9∧1<b.toNat then (0,61,0)
  else if b.toNat<128 then (if b.toNat=0∧0<i then (0,61,0) else (n+b.toNat*128^i,0,i+1))
  else YL r (i+1) (n+(b.toNat % 128)*128^i)
theorem QC{x:Nat}(h:x<256):(UInt8.ofNat x).toNat=x:=by
 rw[UInt8.toNat_ofNat'];exact Nn h
theorem Qa0{i:Nat}(h:i<=9):128^i<=128^9:=LW (by decide) h
theorem QbX(t:List UInt8) : ∀(m i acc:Nat),acc<128^i->acc+m*128^i<2^64->i<=9->(i=0∨0<m) ->
  YL (num m++t) i acc=(acc+m*128^i,0,i+(num m).length):=by
 intro m
 induction m using Nat.strongRecOn with
 | _ m ih =>
  intro i acc ha hn hi h0
  by_cases h:m<128
  ·rw[OU h,List.singleton_append,YL,QC (by omega)]
   have h1 : ¬(i=9∧1<m):=by
    rintro⟨rfl,h1⟩;have:2*128^9<=m*128^9:=LU _ h1;have e:2*128^9=2^64:=by decide
    omega
   rw[Le h1,Lk h,Le (by omega)]
   rfl
  ·rw[Jv (by omega),Ih,YL,QC (by omega)]
   have h1:i≠9:=by
    rintro rfl;have:128*128^9<=m*128^9:=LU _ (by omega)
    have e:2^64<=128*128^9:=by decide
    omega
   rw[Le (by omega),Le (by omega)]
   have hs:acc+(m % 128+128) % 128*128^i+m / 128*128^(i+1)=acc+m*128^i:=by
    rw[Nat.add_mod_right,Nat.mod_mod,LC,LG (128^i),<-LY,Ni,<-LL,Nat.mod_add_div']
   have xA:acc+(m % 128+128) % 128*128^i<128^(i+1):=by
    rw[Nat.add_mod_right,Nat.mod_mod,LC];have:m % 128*128^i<=127*128^i:=LU _ (by omega)
    omega
   rw[ih (m / 128) (by omega) (i+1) _ xA (by rw[hs];exact hn) (by omega) (.inr (by omega)),hs,LE]
   exact Lw (fun x=>(acc+m*128^i,0,x)) (by omega)
theorem Qaz : ∀(l:List UInt8) (i acc n k:Nat),acc<128^i->i<=9->YL l i acc=(n,0,k) ->
  ∃m,n=acc+m*128^i∧num m=l.take (k - i)∧i<k∧k<=10∧k - i<=l.length∧(0<i->0<m)∧n<2^64:=by
 intro l
 induction l with
 | nil=>intro i acc n k _ _ h;simp[YL] at h
 | cons b r ih =>
  intro i acc n k ha hi h;rw[YL] at h
  by_cases h1:i=9∧1<b.toNat
  ·rw[Lk h1] at h;simp at h
  ·rw[Le h1] at h
   by_cases h2:b.toNat<128
   ·rw[Lk h2] at h
    by_cases h3:b.toNat=0∧0<i
    ·rw[Lk h3] at h;simp at h
    ·rw[Le h3] at h;simp only[Prod.mk.injEq,true_and] at h;obtain⟨rfl,rfl⟩:=h;refine⟨b.toNat,rfl,?_,by omega,by omega,by simp,by omega,?_⟩
     ·rw[OU h2,Iw];simp
     ·have e9:(128:Nat)^9=9223372036854775808:=by decide
      rcases Ij i 9 with h9|h9
      ·have hp:128^(i+1)<=128^9:=Qa0 (by omega)
       have:b.toNat*128^i<=127*128^i:=LU _ (by omega)
       rw[LC] at hp;omega
      ·obtain rfl:i=9:=by omega
       have:b.toNat*128^9<=1*128^9:=LU _ (by omega)
       omega
   ·rw[Le h2] at h;have h9:i≠9:=by omega
    have xB:acc+b.toNat % 128*128^i<128^(i+1):=by
     rw[LC];have:b.toNat % 128*128^i<=127*128^i:=LU _ (by omega)
     omega
    obtain⟨m,rfl,h4,h5,h6,h7,h8,xA⟩:=ih (i+1) _ n k xB (by omega) h
    have hm:=h8 (by omega)
    have hb:=b.toNat_lt;refine⟨b.toNat % 128+128*m,?_,?_,by omega,h6,by simp;omega,by omega,xA⟩
    ·rw[LL,LC,LG (128^i),<-LY,LG m,Ni]
    ·rw[Jv (by omega),show(b.toNat % 128+128*m) / 128=m by omega,h4,show(b.toNat % 128+128*m) % 128+128=b.toNat by omega,
      show k - i=(k - (i+1))+1 by omega,Io]
     simp
theorem Qk0 : ∀(l:List UInt8) (i acc:Nat),(YL l i acc).2.1=0∨YL l i acc=(0,60,0)∨YL l i acc=(0,61,0):=by
 intro l
 induction l with
 | nil=>intro i acc;exact .inr (.inl rfl)
 | cons b r ih =>
  intro i acc;rw[YL]
  split
  ·exact .inr (.inr rfl)
  ·split
   ·split
    ·exact .inr (.inr rfl)
    ·exact .inl rfl
   ·exact ih _ _
theorem QD{n:Nat}(h:n<2^64):(num n).length<=10:=by
 have:=QbX [] n 0 0 (by decide) (by simpa using h) (by omega) (.inl rfl)
 obtain⟨m,h1,h2,h3,h4,h5,_⟩:=Qaz _ 0 0 _ _ (by decide) (by omega) this
 omega
theorem QlU(s:BA)(k:Nat)(hk:k<s.size):s.data.toList.drop k=s[k]::s.data.toList.drop (k+1):=by
 rw[LN (by simpa using hk)]
 rfl
theorem Qg{q:Prop}(h:q):Hid q:=h
theorem or7(n b k:Nat)(hn:n<128^k)(hk:k<=9)(h:k=9->b<=1) :
  bits .or .u64 (n:Int) (IntKind.u64.wrap ((b:Int) % 128*2^(7*k)))=((n+b % 128*128^k:Nat):Int)∧n+b % 128*128^k<18446744073709551616:=by
 have e9:(128:Nat)^9=9223372036854775808:=by decide
 have hp:128^k<=128^9:=Qa0 hk;have hx:b % 128*128^k<=9223372036854775808:=by
  rcases Ij k 9 with h9|h9
  ·have xA:128^(k+1)<=128^9:=Qa0 (by omega)
   have:b % 128*128^k<=127*128^k:=LU _ (by omega)
   rw[LC] at xA;omega
  ·obtain rfl:k=9:=by omega
   have:b % 128*128^9<=1*128^9:=LU _ (by have:=h rfl;omega)
   omega
 have e1:((b:Int) % 128*2^(7*k))=((b % 128*128^k:Nat):Int):=by
  rw[Ir,Int.natCast_pow,Int.pow_mul];rfl
 have e2:(2:Nat)^(7*k)=128^k:=by rw[Nat.pow_mul]
 rw[e1,IntKind.wrap_u64,Int.emod_eq_of_lt (by omega) (by omega),u64_or_nat _ _ (by omega) (by omega)]
 refine⟨?_,by omega⟩
 have:=Nat.two_pow_add_eq_or_of_lt (i:=7*k) (b:=n) (by rw[e2];exact hn) (b % 128)
 rw[Nat.or_comm,<-e2,LG (b % 128),<-this,Nat.add_comm n]
def cY(l:List UInt8):List Value:=l.map fun b=>Value.int .u8 (b.toNat:Int)
theorem Qp(l:List UInt8):(cY l).length=l.length:=by simp[cY]
theorem Tryz.infoY:(prog.info? 5).map (fun i=>(i.zero,i.size,i.bytes))=some (some (.int .u8 0),1,1):=by kernel_rfl
def OwnY(w:World)(B:Nat)(v:Value)(l:List UInt8):Prop:=w.ownsRow B 5 1 v l.length (cY l)
theorem QcH{w:World}{B:Nat}{v:Value}{l:List UInt8}(h:OwnY w B v l):(convert 127 9 v).run prog w = .ok (.string ⟨l.toArray⟩) w:=by
 have hc:=fun g=>h.cells (g:=g)
 obtain⟨h1,h2⟩:=h
 rcases h2 with ⟨rfl,h0⟩|⟨g,cap,cur,rfl,hg,hh,r⟩
 ·have:l=[]:=List.length_eq_zero_iff.1 h0;subst this;exact run_convert_bytes_nil w 127 5 underlying127 underlying5 0 0 9 underlying9
 ·refine run_convert_bytes_back _ 127 9 5 ⟨g,0,none⟩ cap l underlying127 underlying5 underlying9 fun j hj => ?_
  exact hc g rfl j _ (by simp[cY,List.getElem?_eq_getElem hj])
theorem QkB{w:World}{B:Nat}{v:Value}{l:List UInt8}(h:OwnY w B v l) : ∀k,v.ownBlock=some k->B<=k:=by
 obtain⟨_,h2⟩:=h
 rcases h2 with ⟨rfl,_⟩|⟨g,cp,cur,rfl,hg,_⟩
 ·intro k hk;cases hk
 ·intro k hk;cases hk;exact hg
theorem QkA(w:World):OwnY (w.alloc (.cells #[] 5)) w.heap.size (.slice (some ⟨w.heap.size,0,none⟩) 0 0) [] :=
 ⟨rfl,.inr ⟨w.heap.size,0,#[],rfl,La _,LH w _,La _,by unfold maxLen;omega,rfl,rfl⟩⟩
theorem YA(w:World){ops:Array Oper}{rest:List Oper}{o:Oper}{a:Act}{Q:Exit->Act->World->Prop}
  (hg:o.guard=none) (s x:Operand) (hop:o.op=Op.call { callee:=Callee.builtin Builtin.append,args:=#[s,x],argTypes:=#[127,127] })
  (B:Nat) (v:Value) (L:List UInt8) (hs:a.eval s=v) (hown:OwnY w B v L) (y:Nat) (b:UInt8) (hb:y=b.toNat) (hx:a.eval x = .slice (some ⟨w.heap.size,0,none⟩) 1 1)
  (hlen:L.length<=1000) (hB:B<=w.heap.size)
  (hK : ∀v' w',OwnY w' B v' (L++[b])->Below B w w'->wpList prog ops Q rest (a.put o.dst v') w'):wpList prog ops Q (o::rest) a (w.alloc (.cells #[.int .u8 (y:Int)] 5)):=by
 obtain⟨i0,hi,xB,xC,xD⟩:=info_parts Tryz.infoY;subst hb;refine wpList_append_own _ hg s x _ hop B 5 i0 (.int .u8 0) 1 1 underlying127 hi xB xC xD rfl (by decide) _ _ _ hs (World.ownsRow.alloc hown _) ⟨w.heap.size,0,none⟩ 1 1 (cY [b]) hx (by simp[cY]) ?_ (by intro u hu;simp[cY] at hu;subst hu;rfl) (by unfold maxLen;omega) (by omega) (by simp;omega) ?_
 ·intro j u hu;have hj:j=0:=by have:=(List.getElem?_eq_some_iff.1 hu).1;simp[cY] at this;exact this
  subst hj;have xA:Value.int .u8 (b.toNat:Int)=u:=Ns hu;subst xA;rw[Addr.add_mid,LX]
  rfl
 ·intro v' w' h1 h2 _;refine hK v' w' ?_ (((Lb _ _).alloc hB _).trans ((Lb _ _).grown h2 (by simp;omega) (QkB hown)))
  rw[OwnY,Lc,cY,L5];exact h1
theorem Qo6 : ∀x:Nat,x<256->x ||| 128=x % 128+128:=by decide
theorem QlG(n:Nat):bits .or .u8 ((n:Int) % 256) 128=((UInt8.ofNat (n % 128+128)).toNat:Int):=by
 rw[QC (by omega)]
 have:=u8_or_nat (n % 256) 128 (by omega) (by decide)
 rw[show((n % 256:Nat):Int)=(n:Int) % 256 by omega,show((128:Nat):Int)=128 from rfl] at this
 rw[this,Qo6 _ (by omega)]
 omega
theorem OT(w:World)(n:Nat)(hn:n<18446744073709551616) :
  Calls prog 311 #[.int .u64 (n:Int)] w fun x w'=>x = .returned (.string ⟨(num n).toArray⟩)∧Below w.heap.size w w':=by
 have HL:=Qg (QD (n:=n) hn)
 go_enter func311,ntmps311;go_wp2
 go_loopg [0,3] n (fun g x v wr => ∃(m:Nat) (pre:List UInt8),m=g∧x = .int .u64 (m:Int)∧OwnY wr w.heap.size v pre∧Hid (pre++num m=num n∧m<=n)∧Below w.heap.size w wr)
 case atStart=>go_light;exact⟨n,[],rfl,rfl,QkA w,⟨rfl,La _⟩,(Lb _ _).alloc (La _) _⟩
 case round =>
  obtain⟨m,pre,hg,rfl,xA,HP,hb⟩:=hrel;subst hg;have HS:Hid (pre.length<=10∧w.heap.size<=wr.heap.size):=by
   have:=Lw List.length HP.out.1;rw[Lc] at this;have:=HL.out;exact⟨by omega,hb.size⟩
  by_cases hm:m<128
  ·have xD:(m:Int)<128:=by omega
   have HY:=Qg (QC (x:=m) (by omega)).symm
   have HR:Hid (pre++[UInt8.ofNat m]=num n):=by
    have:=HP.out.1;rw[OU hm] at this;exact this
   go_wp2_with (at_builtin;refine YA _ rfl _ _ rfl w.heap.size _ pre rfl xA m (UInt8.ofNat m) HY.out rfl ?c1 ?c2 ?_)
   case c1=>have:=HS.out;omega
   case c2=>exact HS.out.2
   intro v' w2 r1 r2;have xC:=QcH r1;rw[HR.out] at xC;go_wp2
   go_ret
   exact⟨rfl,hb.trans r2⟩
  ·have xD : ¬(m:Int)<128:=by omega
   have xE:(128:Int)<=(m:Int):=by omega
   obtain⟨c,hc⟩ : ∃c,c=UInt8.ofNat (m % 128+128):=⟨_,rfl⟩;obtain⟨y,hy⟩ : ∃y,y=c.toNat:=⟨_,rfl⟩;have ey:=QlG m;rw[<-hc,<-hy] at ey;have HY:=Qg hy;clear hy;have HR:Hid ((pre++[c])++num (m / 128)=num n∧m / 128<=n):=by
    have:=HP.out;rw[Jv (by omega),<-hc] at this
    exact⟨by rw[<-this.1];simp,by omega⟩
   clear hc;have HQ:Hid ((m:Int) / 128=((m / 128:Nat):Int)∧m / 128<m):=⟨by omega,by omega⟩
   go_wp2_with (at_builtin;refine YA _ rfl _ _ rfl w.heap.size _ pre rfl xA y c HY.out rfl ?c1 ?c2 ?_)
   case c1=>have:=HS.out;omega
   case c2=>exact HS.out.2
   intro v' w2 r1 r2;have xB:=hb.trans r2;clear r2 hb xA;go_wp2
   go_roundg (m / 128)
   case rel=>go_light;exact⟨m / 128,_,rfl,by rw[<-HQ.out.1],r1,HR.out,xB⟩
   case measure=>go_light;exact HQ.out.2
theorem QdD{B:Nat}{a w:World}(hb:Below B a w){b o:Nat}{cs:List Value}(hlt:b<B)(h:a.rangeAt b o cs):w.rangeAt b o cs:=fun j v hv=>by
 rw[hb.cell (p:=⟨b,o+j,none⟩) hlt];exact h j v hv
open Cv (RdC zl cU)
section
variable {w W:World} {s:Nat} {a b c d e f:Value}
end
section
variable {q:Nat} {w w1 w2:World}
end
section
open Cv (rst cov QI QG Til)
structure PV where
 kd:Int
 k:Int
 old:Nat
 size:Nat
 S:List Nat
 D:LB
def cnt(kd k:Int)(old size:Nat)(S:List Nat):Option Nat :=
 if 1<=k∧k<=32∧size<=2^40 then
  if kd=1 then (if old=0∧S.length=1∧QG size S=0 then some (rst 0 size S).length else none)
  else if kd=2 then (if old=0∧QG size S=0 then some (rst 0 size S).length else none)
  else if kd=3 then (if old<=size∧S=[] then some ((cov 0 old).length+(cov old size).length) else none)
  else none
 else none
theorem Qnj{A:Nat->Prop}{q:Nat} : ∀ {L:List (Nat×Nat)} {p:Nat},Til A q p L->L.length+p<=q:=by
 intro L
 induction L with
 | nil=>intro p h;have:=h.1;simp;omega
 | cons b L ih =>
  intro p h;obtain⟨h1,h2,h3,h4,h5,h6⟩:=h;have:=ih h6;have:=Cv.Jj b.1 b.2;simp;omega
theorem QdS{n:Nat}{S:List Nat}(hn:n<=2^40)(hc:QI 0 S n):(rst 0 n S).length<=n:=Qnj (Cv.QdR n S hn hc)
theorem JK : ∀ {S:List Nat} {x n:Nat},QI x S n->S.length+x<=n:=by
 intro S
 induction S with
 | nil=>intro x n h;have:x<=n:=h;simp;omega
 | cons i S ih=>intro x n h;have:=ih h.2;have:=h.1;simp;omega
structure CntOk(kd k:Int)(old size:Nat)(S:List Nat)(c:Nat):Prop where
 kd1:1<=kd
 kd3:kd<=3
 k1:1<=k
 k32:k<=32
 hsz:size<=1099511627776
 hc:c<=1099511627776
 hold:old<=size
 len:S.length<=size
 chain:QI 0 S size
 one:kd=1->S.length=1∧old=0
 two:kd=2->old=0
 three:kd=3->S=[]
theorem Yh{kd k:Int}{old size c:Nat}{S:List Nat}(h:cnt kd k old size S=some c):CntOk kd k old size S c:=by
 unfold cnt at h;have xA:(2:Nat)^40=1099511627776:=by decide
 split at h
 ·rename_i h0
  obtain⟨g1,g2,g3⟩:=h0
  split at h
  ·rename_i hk
   split at h
   ·rename_i h1
    obtain⟨a1,a2,a3⟩:=h1;have hc:=(Cv.Yw a3).2.2.2;have hl:=JK hc;have hr:=QdS g3 hc
    cases h;exact⟨by omega,by omega,g1,g2,by omega,by omega,by omega,by omega,hc,fun _=>⟨a2,a1⟩,fun h=>by omega,fun h=>by omega⟩
   ·cases h
  ·rename_i hk1
   split at h
   ·rename_i hk
    split at h
    ·rename_i h1
     obtain⟨a1,a3⟩:=h1;have hc:=(Cv.Yw a3).2.2.2;have hl:=JK hc;have hr:=QdS g3 hc
     cases h;exact⟨by omega,by omega,g1,g2,by omega,by omega,by omega,by omega,hc,fun h=>by omega,fun _=>a1,fun h=>by omega⟩
    ·cases h
   ·rename_i hk2
    split at h
    ·rename_i hk
     split at h
     ·rename_i h1
      obtain⟨a1,a3⟩:=h1;have h1:=Cv.Qcr old (by omega)
      have h2:=Cv.JM old size a1 g3
      cases h;subst a3;exact⟨by omega,by omega,g1,g2,by omega,by omega,a1,by simp,Ll _,fun h=>by omega,fun h=>by omega,fun _=>rfl⟩
     ·cases h
    ·cases h
 ·cases h
def Qu(D:LB):List UInt8:=(D.map (·.data.toList)).flatten
theorem YF(d:BA)(D:LB):Qu (d::D)=d.data.toList++Qu D:=by simp[Qu]
theorem OG(D E:LB):Qu (D++E)=Qu D++Qu E:=by simp[Qu]
theorem Qb(d:BA):d.data.toList.length=d.size:=Np
theorem OH{k:Nat} : ∀ {D:LB},(∀d∈D,d.size=k)->(Qu D).length=D.length*k:=by
 intro D
 induction D with
 | nil=>intro _;simp[Qu]
 | cons d D ih =>
  intro h;rw[YF,Lc,Qb,h d (by simp),ih (fun x hx=>h x (by simp[hx])),LE,LL,LV,Nat.add_comm]
def Qj:Nat->List Nat->List UInt8
 | _,[]=>[]
 | x,i::S=>num (i - x)++Qj (i+1) S
def nxt:Nat->List Nat->Nat
 | x,[]=>x
 | _,i::S=>nxt (i+1) S
theorem Qcz(i:Nat) : ∀(S:List Nat) (x:Nat),Qj x (S++[i])=Qj x S++num (i - nxt x S):=by
 intro S
 induction S with
 | nil=>intro x;simp[Qj,nxt]
 | cons a S ih=>intro x;rw[Ih,Qj,ih,Qj,Lq,nxt]
theorem Ux(i:Nat) : ∀(S:List Nat) (x:Nat),nxt x (S++[i])=i+1:=by
 intro S
 induction S with
 | nil=>intro x;rfl
 | cons a S ih=>intro x;rw[Ih,nxt,ih]
theorem QcA : ∀(S:List Nat) (x:Nat),S.length<=(Qj x S).length:=by
 intro S
 induction S with
 | nil=>intro x;simp[Qj]
 | cons a S ih=>intro x;have:=ih (a+1);have:=Qms (a - x);simp[Qj];omega
def mid(p:PV):List UInt8:=if p.kd=1 then num (p.S.getD 0 0) else if p.kd=2 then num p.S.length++Qj 0 p.S else num p.old
def enc(p:PV):List UInt8:=UInt8.ofNat p.kd.toNat::UInt8.ofNat p.k.toNat::(num p.size++(mid p++Qu p.D))
def Yk(p:PV):Prop:=cnt p.kd p.k p.old p.size p.S=some p.D.length ∧ ∀d∈p.D,(d.size:Int)=p.k
instance (p:PV):Decidable (Yk p):=by unfold Yk;infer_instance
def nmb(l:List UInt8):Option (Nat×List UInt8):=if (YL l 0 0).2.1=0 then some ((YL l 0 0).1,l.drop (YL l 0 0).2.2) else none
theorem OR{n:Nat}(hn:n<2^64)(t:List UInt8):nmb (num n++t)=some (n,t):=by
 have h:=QbX t n 0 0 (by decide) (by simpa using hn) (by decide) (.inl rfl)
 rw[nmb,h];simp
theorem Jt{l r:List UInt8}{n:Nat}(h:nmb l=some (n,r)):l=num n++r∧n<2^64:=by
 unfold nmb at h
 split at h
 ·rename_i h0
  obtain⟨a,b,c,hc⟩ : ∃a b c,YL l 0 0=(a,b,c):=⟨_,_,_,rfl⟩;rw[hc] at h h0;simp only at h h0;subst h0;obtain⟨m,h1,h2,h3,h4,h5,h6,h7⟩:=Qaz l 0 0 a _ (by decide) (by decide) hc
  simp only[Option.some.injEq,Prod.mk.injEq] at h;obtain⟨rfl,rfl⟩:=h;rw[Lm,Ik,L8] at h1;subst h1;rw[h2];exact⟨by simp,h7⟩
 ·cases h
def setL:Nat->Nat->Nat->List UInt8->Option (List Nat×List UInt8)
 | 0,_,_,l=>some ([],l)
 | c+1,x,size,l =>
  match nmb l with
  | none=>none
  | some (d,r)=>if x+d<size then (match setL c (x+d+1) size r with|none=>none|some (S,r')=>some ((x+d)::S,r')) else none
theorem QiL{size:Nat}(hs:size<=2^64)(t:List UInt8) : ∀(S:List Nat) (x:Nat),QI x S size->setL S.length x size (Qj x S++t)=some (S,t):=by
 intro S
 induction S with
 | nil=>intro x _;rfl
 | cons i S ih =>
  intro x h;have hl:=Cv.Ys h.2;have h1:=h.1;rw[LE,Qj,Lq,setL,OR (by omega)]
  simp only;rw[show x+(i - x)=i by omega,Lk (by omega),ih (i+1) h.2]
theorem QiK{size:Nat} : ∀(c x:Nat) (l:List UInt8) (S:List Nat) (r:List UInt8),x<=size->setL c x size l=some (S,r)->S.length=c∧l=Qj x S++r∧QI x S size:=by
 intro c
 induction c with
 | zero =>
  intro x l S r hx h;simp only[setL,Option.some.injEq,Prod.mk.injEq] at h;obtain⟨rfl,rfl⟩:=h;exact⟨rfl,rfl,hx⟩
 | succ c ih =>
  intro x l S r hx h;rw[setL] at h
  split at h
  ·cases h
  ·rename_i d r' hn
   split at h
   ·rename_i hlt
    split at h
    ·cases h
    ·rename_i S' r'' hs
     simp only[Option.some.injEq,Prod.mk.injEq] at h;obtain⟨rfl,rfl⟩:=h;obtain⟨g1,g2,g3⟩:=ih _ _ _ _ hlt hs;obtain⟨n1,n2⟩:=Jt hn;refine⟨by simp[g1],?_,by omega,g3⟩
     rw[Qj,Lq,<-g2,Iw,<-n1]
   ·cases h
def digL:Nat->Nat->List UInt8->LB
 | 0,_,_=>[]
 | c+1,k,l=>⟨(l.take k).toArray⟩::digL c k (l.drop k)
theorem Qh2{k:Nat} : ∀(D:LB),(∀d∈D,d.size=k)->digL D.length k (Qu D)=D:=by
 intro D
 induction D with
 | nil=>intro _;rfl
 | cons d D ih =>
  intro h;have hd:d.data.toList.length=k:=by rw[Qb];exact h d (by simp)
  rw[LE,digL,YF,Wb hd,List.drop_left' hd,ih (fun x hx=>h x (by simp[hx]))]
theorem Qh1{k:Nat} : ∀(c:Nat) (l:List UInt8),c*k=l.length->Qu (digL c k l)=l∧(digL c k l).length=c ∧ ∀d∈digL c k l,d.size=k:=by
 intro c
 induction c with
 | zero=>intro l h;have:l=[]:=List.length_eq_zero_iff.1 (by omega);subst this;exact⟨rfl,rfl,fun d hd=>by cases hd⟩
 | succ c ih =>
  intro l h;rw[LL,LV] at h;obtain⟨g1,g2,g3⟩:=ih (l.drop k) (by rw[Nb];omega)
  refine⟨by rw[digL,YF,g1];simp,by rw[digL,LE,g2],fun d hd => ?_⟩
  rw[digL] at hd
  rcases List.mem_cons.1 hd with rfl|hd
  ·simp[ByteArray.size];omega
  ·exact g3 d hd
def midR(kd:Nat)(size:Nat)(l:List UInt8):Option (Nat×List Nat×List UInt8) :=
 if kd=1 then (match nmb l with|none=>none|some (i,r)=>some (0,[i],r))
 else if kd=2 then (match nmb l with|none=>none|some (c,r)=>if c<=r.length then (match setL c 0 size r with|none=>none|some (S,r')=>some (0,S,r')) else none)
 else if kd=3 then (match nmb l with|none=>none|some (o,r)=>some (o,[],r))
 else some (0,[],l)
def decB(b0 b1 size old:Nat)(S:List Nat)(l:List UInt8):Option PV :=
 match cnt b0 b1 old size S with
 | none=>none
 | some c=>if c*b1=l.length then some ⟨b0,b1,old,size,S,digL c b1 l⟩ else none
def decA(b0 b1:Nat)(l:List UInt8):Option PV :=
 match nmb l with
 | none=>none
 | some (size,l1)=>match midR b0 size l1 with|none=>none|some (old,S,l2)=>decB b0 b1 size old S l2
def dec:List UInt8->Option PV
 | b0::b1::l=>decA b0.toNat b1.toNat l
 | _=>none
theorem QgO{p:PV}(h:Yk p):dec (enc p)=some p:=by
 obtain⟨kd,k,xB,xA,S,D⟩:=p;obtain⟨h1,h2⟩:=h;simp only at h1 h2;have o:=Yh h1;have i1:=o.kd1;have i2:=o.kd3;have i3:=o.k1;have i4:=o.k32;have i5:=o.hsz;have i6:=o.hold;have i7:=o.len;obtain⟨a,rfl⟩ : ∃a:Nat,kd=a:=⟨kd.toNat,by omega⟩
 obtain⟨b,rfl⟩ : ∃b:Nat,k=b:=⟨k.toNat,by omega⟩
 have hD : ∀d∈D,d.size=b:=fun d hd=>by have:=h2 d hd;omega
 simp only[enc,dec,decA,Int.toNat_natCast];rw[QC (show a<256 by omega),QC (show b<256 by omega),OR (by omega)]
 simp only;have hm:midR a xA (mid ⟨a,b,xB,xA,S,D⟩++Qu D)=some (xB,S,Qu D):=by
  have e1:((a:Int)=1)↔a=1:=by omega
  have e2:((a:Int)=2)↔a=2:=by omega
  simp only[midR,mid,e1,e2]
  by_cases ha:a=1
  ·obtain⟨g1,g2⟩:=o.one (by omega)
   obtain⟨i,rfl⟩:=List.length_eq_one_iff.1 g1;have hc:=Cv.Ys o.chain.2;rw[Lk ha,Lk ha,show[i].getD 0 0=i from rfl,OR (by omega),g2]
  ·rw[Le ha,Le ha]
   by_cases ha2:a=2
   ·have hl:=QcA S 0;rw[Lk ha2,Lk ha2,Lq,OR (by omega)]
    simp only;rw[Lk (by simp;omega),QiL (by omega) _ _ _ o.chain]
    simp only[o.two (by omega)]
   ·rw[Le ha2,Le ha2,Lk (by omega),OR (by omega)]
    simp only[o.three (by omega)]
 rw[hm];simp only[decB,h1];rw[Lk (by rw[OH hD]),Qh2 D hD]
theorem QgQ{s:List UInt8}{p:PV}(h:dec s=some p):Yk p∧enc p=s∧(∃b0 b1:Nat,p.kd=b0∧p.k=b1):=by
 unfold dec at h
 split at h
 ·rename_i b0 b1 l
  unfold decA at h
  split at h
  ·cases h
  ·rename_i size l1 hn
   split at h
   ·cases h
   ·rename_i old S l2 hm
    unfold decB at h
    split at h
    ·cases h
    ·rename_i c hc
     split at h
     ·rename_i hlen
      cases h;obtain⟨d1,d2,d3⟩:=Qh1 c l2 hlen;obtain⟨n1,n2⟩:=Jt hn;have o:=Yh hc;have i1:=o.kd1;have i2:=o.kd3;have i5:=o.hsz;refine⟨⟨by simp only[d2];exact hc,fun d hd=>by have:=d3 d hd;simp only;omega⟩,?_,_,_,rfl,rfl⟩
      have hb : ∀b:UInt8,UInt8.ofNat b.toNat=b:=fun b=>by simp
      simp only[enc,Int.toNat_natCast,hb,d1];rw[n1]
      congr 3
      have e1:((b0.toNat:Int)=1)↔b0.toNat=1:=by omega
      have e2:((b0.toNat:Int)=2)↔b0.toNat=2:=by omega
      simp only[mid,e1,e2];unfold midR at hm
      split at hm
      ·rename_i h1
       rw[Lk h1]
       split at hm
       ·cases hm
       ·rename_i i r hi
        cases hm;obtain⟨m1,m2⟩:=Jt hi;rw[m1];rfl
      ·rename_i h1
       rw[Le h1]
       split at hm
       ·rename_i h2
        rw[Lk h2]
        split at hm
        ·cases hm
        ·rename_i c' r hi
         split at hm
         ·split at hm
          ·cases hm
          ·rename_i S' r' hs
           cases hm;obtain⟨m1,m2⟩:=Jt hi;obtain⟨g1,g2,g3⟩:=QiK _ _ _ _ _ (Ll _) hs;rw[m1,g1,Lq,<-g2]
         ·cases hm
       ·rename_i h2
        rw[Le h2]
        split at hm
        ·split at hm
         ·cases hm
         ·rename_i o' r hi
          cases hm;obtain⟨m1,m2⟩:=Jt hi;rw[m1]
        ·rename_i h3
         omega
     ·cases h
 ·cases h
end
end Go.Proofs.YtoblgjledefdbaaGreatDoor
