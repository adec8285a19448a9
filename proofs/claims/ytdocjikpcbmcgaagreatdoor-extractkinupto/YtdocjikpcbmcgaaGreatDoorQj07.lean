/- Own work. -/
import Derived.Test.YtdocjikpcbmcgaaGreatDoorQj06
set_option maxRecDepth 100000
set_option maxHeartbeats 1000000
namespace Go.Proofs.YtdocjikpcbmcgaaGreatDoor
open Go.RowKit
attribute [local go_sem ↓] Go.wp_at_zero Go.wp_at_succ
namespace Cv
open Pl
structure Rd(w:World)(ao:OA)(b off n:Nat)(l:List Nat):Prop where
 len:l.length=n
 addr:0<n->ao=some ⟨b,off,none⟩
 cell : ∀j,j<n->w.cell? ⟨b,off+j,none⟩=some (.int .u64 (l.getD j 0:Nat))
theorem Rd.below{w w':World}{ao:OA}{b off n:Nat}{l:List Nat}(r:Rd w ao b off n l)(h:Zb w w'):Rd w' ao b off n l :=
 ⟨r.len,r.addr,fun j hj=>(h.cell (p:=⟨b,off+j,none⟩) (Lh w _ (r.cell j hj))).trans (r.cell j hj)⟩
theorem Rd.lt{w:World}{ao:OA}{b off n:Nat}{l:List Nat}(r:Rd w ao b off n l)(h:0<n):b<w.heap.size:=Lh w ⟨b,off+0,none⟩ (r.cell 0 h)
theorem Rd.at{w w':World}{ao:OA}{b off n B:Nat}{l:List Nat}(r:Rd w ao b off n l)(h:Below B w w')(hb:0<n->b<B):Rd w' ao b off n l :=
 ⟨r.len,r.addr,fun j hj=>(Lr (h.block b (hb (by omega)))).trans (r.cell j hj)⟩
def Inc(l:List Nat):Prop:=0<l.length ∧ ∀i,i+1<l.length->l.getD i 0<l.getD (i+1) 0
def incB(l:List Nat):Bool:=decide (0<l.length) && (List.range (l.length - 1)).all (fun i=>decide (l.getD i 0<l.getD (i+1) 0))
theorem U5(l:List Nat):incB l=true↔Inc l:=by
 unfold incB Inc;rw[I5,decide_eq_true_iff,N9]
 constructor
 ·rintro⟨h1,h2⟩;exact⟨h1,fun i hi=>by simpa using h2 i (IU.2 (by omega))⟩
 ·rintro⟨h1,h2⟩;exact⟨h1,fun i hi=>by have:=IU.1 hi;simpa using h2 i (by omega)⟩
def QX:Nat->List Nat->Nat->Prop
 | x,[],n=>x<=n
 | x,i::S,n=>x<=i∧QX (i+1) S n
theorem Ug : ∀ {S:List Nat} {x n:Nat},QX x S n->x<=n:=by
 intro S
 induction S with
 | nil=>intro x n h;exact h
 | cons i S ih=>intro x n h;have:=ih h.2;have:=h.1;omega
theorem Qd5 : ∀(l:List Nat) (x n:Nat),(∀i,i+1<l.length->l.getD i 0<l.getD (i+1) 0)->(0<l.length->x<=l.getD 0 0)->(0<l.length->l.getD (l.length - 1) 0<n)->x<=n->QX x l n:=by
 intro l
 induction l with
 | nil=>intro x n _ _ _ h;exact h
 | cons a l ih =>
  intro x n h1 h2 h3 h4;refine⟨by simpa using h2 (by simp),ih (a+1) n (fun i hi => ?_) (fun h => ?_) (fun h => ?_) ?_⟩
  ·have:=h1 (i+1) (by simp;omega)
   simpa using this
  ·have:=h1 0 (by simp;omega)
   simp at this ⊢;omega
  ·have:=h3 (by simp)
   rw[show(a::l).length - 1=(l.length - 1)+1 by simp;omega] at this
   simpa using this
  ·cases l with
   | nil=>have:=h3 (by simp);simp at this;omega
   | cons b l =>
    have h5 : ∀j,j<(b::l).length->a<(a::b::l).getD (j+1) 0:=fun j=>by
     induction j with
     | zero=>intro _;have:=h1 0 (by simp);simpa using this
     | succ j ihj=>intro hj;have g1:=ihj (by omega);have g2:=h1 (j+1) (by simp at *;omega);omega
    have h6:=h5 l.length (by simp)
    have h7:=h3 (by simp)
    simp only[List.length_cons,Nat.add_sub_cancel] at h7;omega
def Yh(n:Nat)(l:List Nat):Nat:=if 2^40<n then 30 else if incB l=false then 40 else if n<=l.getD (l.length - 1) 0 then 31 else 0
def rstS(n:Nat)(l:List Nat):List (Nat×Nat):=if Yh n l=0 then rst 0 n l else []
theorem Oa{n:Nat}{l:List Nat}(h:Yh n l=0):n<=2^40∧Inc l∧l.getD (l.length - 1) 0<n∧QX 0 l n:=by
 unfold Yh at h
 split at h
 ·cases h
 ·rename_i h1
  split at h
  ·cases h
  ·rename_i h2
   split at h
   ·cases h
   ·rename_i h3
    have hi:Inc l:=(U5 l).1 (by cases hb:incB l with
     | true=>rfl
     | false=>exact absurd hb h2)
    exact⟨by omega,hi,by omega,Qd5 l 0 n hi.2 (fun _=>Lf _) (fun _=>by omega) (Lf _)⟩
theorem QhE(w:World)(ao:OA)(b off n cap:Nat)(l:List Nat)(r:Rd w ao b off n l)(hn:n<=maxLen) :
  Zr 180 #[.slice ao n cap] w (.bool (incB l)):=by
 have hn':(n:Int)<=9223372036854775807:=by unfold maxLen at hn;omega
 have HR:Hid (Rd w ao b off n l):=r;clear hn r
 go_enter Tryz.func180,Tryz.ntmps180;go_wp2
 go_loopg [3] n (fun g i wr => ∃k:Nat,(k<=n∨k=1)∧1<=k∧g=n+1 - k∧i = .int .i64 (k:Int)∧(∀j,j+1<k->l.getD j 0<l.getD (j+1) 0)∧Zb w wr)
 case atStart =>
  go_light;exact⟨1,.inr rfl,Lb _,by omega,rfl,fun j hj=>absurd hj (by omega),Below.refl _ _⟩
 case round =>
  obtain⟨k,hk,hk1,rfl,rfl,he,hb⟩:=hrel;have hk0:(0:Int)<=(k:Int):=Le _
  by_cases hlt:k<n
  ·obtain⟨i,rfl⟩ : ∃i,k=i+1:=⟨k - 1,by omega⟩
   have r1:=HR.out.below hb;obtain rfl:=r1.addr (by omega)
   have c1:=r1.cell (i+1) hlt;have c2:=r1.cell i (by omega)
   have hz:((i+1:Nat):Int)<(n:Int):=by omega
   have ei:(((i+1:Nat):Int) - 1)=(i:Int):=by omega
   have ec:((i+1:Nat):Int)=(i:Int)+1:=by omega
   have hz2:(i:Int)+1<(n:Int):=by omega
   have hz3:(i:Int)<(n:Int):=by omega
   have hi0:(0:Int)<=(i:Int):=Le _;have hi1:(0:Int)<=(i:Int)+1:=by omega
   have HB:Hid (Zb w wr):=hb;have HE:Hid (∀j,j+1<i+1->l.getD j 0<l.getD (j+1) 0):=he;have HI:Hid (¬l.getD i 0<l.getD (i+1) 0->incB l=false):=fun hno=>by
    cases hB:incB l with
    | false=>rfl
    | true=>exact absurd (((U5 l).1 hB).2 i (by have:=HR.out.len;omega)) hno
   obtain⟨x,hx⟩:=Ze (l.getD (i+1) 0);obtain⟨y,hy⟩:=Ze (l.getD i 0);rw[hx] at c1;rw[hy] at c2;rw[hx,hy] at HI;have HX:Hid (l.getD (i+1) 0=x∧l.getD i 0=y):=⟨hx,hy⟩;have hlt2:i+1<n:=hlt;clear hx hy r1 hb he hk hlt
   by_cases hxy:x<=y
   ·have HN:Hid (incB l=false):=HI.out (by omega)
    go_wp2
    go_quiet (fail)
    go_wp2
    go_ret
    exact⟨by rw[HN.out];rfl,Qd HB.out _⟩
   ·go_wp2
    go_quiet (fail)
    go_wp2
    go_roundg (n+1 - (i+1+1))
    case rel =>
     go_light;refine⟨i+1+1,by omega,by omega,rfl,by go_num,fun j hj => ?_,Qd HB.out _⟩
     by_cases hjk:j=i
     ·subst hjk;rw[HX.out.1,HX.out.2];omega
     ·exact HE.out j (by omega)
    case measure=>go_light;omega
  ·have hz : ¬(k:Int)<(n:Int):=by omega
   have hz' : ¬k<n:=by omega
   have HN:Hid (decide ((0:Int)<(n:Int))=incB l):=by
    have hl:=HR.out.len
    cases hB:incB l with
    | true=>have:=((U5 l).1 hB).1;exact decide_eq_true (by omega)
    | false =>
     refine decide_eq_false (fun hp => ?_)
     have:incB l=true:=(U5 l).2 ⟨by omega,fun i hi=>he i (by omega)⟩
     rw[this] at hB;cases hB
   have HB:Hid (Zb w wr):=hb;clear he hb hk;go_wp2
   go_ret
   refine⟨?_,HB.out⟩
   have:=HN.out;simp at this ⊢;exact this
theorem QW(m:Nat)(w:World)(ao:OA)(b off n cap:Nat)(l:List Nat)(r:Rd w ao b off n l)(hn:n<=maxLen) :
  Zr 158 #[.int .u64 (m:Int),.slice ao n cap] w (.int .i64 (Yh m l:Nat)):=by
 have HR:=QhE w ao b off n cap l r hn;have hn':(n:Int)<=9223372036854775807:=by unfold maxLen at hn;omega
 by_cases h1:2^40<m
 ·have ht:decide ((1099511627776:Int)<(m:Int))=true:=decide_eq_true (by omega)
  have he:Yh m l=30:=by rw[Yh,if_pos h1]
  rw[he];clear h1 he
  go_enter Tryz.func158,Tryz.ntmps158;go_wp2
  go_ret
  exact⟨rfl,Below.refl _ _⟩
 ·have ht:decide ((1099511627776:Int)<(m:Int))=false:=decide_eq_false (by omega)
  cases h2:incB l with
  | false =>
   have he:Yh m l=40:=by rw[Yh,if_neg h1,if_pos h2]
   rw[he];rw[h2] at HR;clear h1 he
   go_enter Tryz.func158,Tryz.ntmps158
   go_wp2_with (go_at_call 180;with_reducible refine HR.mono ?_;rintro e w1 ⟨rfl,hb⟩)
   go_ret
   exact⟨rfl,hb⟩
  | true =>
   have h3:=(U5 l).1 h2;have hl:=r.len;rw[h2] at HR;obtain⟨j,rfl⟩ : ∃j,n=j+1:=⟨n - 1,by have:=h3.1;omega⟩
   obtain rfl:=r.addr (by omega)
   have hc:=r.cell j (by omega)
   have e1:(((j+1:Nat):Int) - 1)=(j:Int):=by omega
   have e2:((j+1:Nat):Int)=(j:Int)+1:=by omega
   have hz1:(j:Int)<(j:Int)+1:=by omega
   have hj0:(0:Int)<=(j:Int):=Le _;have hlast:l.getD (l.length - 1) 0=l.getD j 0:=by rw[hl];rfl
   obtain⟨x,hx⟩:=Ze (l.getD j 0);rw[hx] at hc hlast;have hcell : ∀w',Zb w w'->w'.cell? ⟨b,off+j,none⟩=some (.int .u64 (x:Int)):=fun w' hb=>(hb.cell (p:=⟨b,off+j,none⟩) (Lh w _ hc)).trans hc
   by_cases h4:m<=x
   ·have he:Yh m l=31:=by rw[Yh,if_neg h1,if_neg (by rw[h2];decide),if_pos (by rw[hlast];exact h4)]
    rw[he];have h4':(m:Int)<=(x:Int):=by omega
    clear h1 he h2 h3 hl hx hlast r hn
    go_enter Tryz.func158,Tryz.ntmps158
    go_wp2_with (go_at_call 180;with_reducible refine HR.mono ?_;rintro e w1 ⟨rfl,hb⟩;have c1:=hcell w1 hb)
    go_ret
    exact⟨rfl,hb⟩
   ·have he:Yh m l=0:=by rw[Yh,if_neg h1,if_neg (by rw[h2];decide),if_neg (by rw[hlast];exact h4)]
    rw[he];have h4' : ¬(m:Int)<=(x:Int):=by omega
    clear h1 he h2 h3 hl hx hlast r hn
    go_enter Tryz.func158,Tryz.ntmps158
    go_wp2_with (go_at_call 180;with_reducible refine HR.mono ?_;rintro e w1 ⟨rfl,hb⟩;have c1:=hcell w1 hb)
    go_ret
    exact⟨rfl,hb⟩
theorem Qiw(l:List Nat)(j:Nat)(h:j<l.length):l.drop j=l.getD j 0::l.drop (j+1):=by
 rw[LC h,La,Lc h];rfl
theorem Qdi{k B0 M:Nat}(hk:k=162∨k=160∨k=183){I:(Nat->Prop)->List (Nat×Nat)->World->Prop}(G:Give k B0 M I)(hM:M<=4611686018427387904)(X:Nat->Prop)(acc:List (Nat×Nat))(n:Nat)(w:World)
  (ao:OA) (b off m cap:Nat) (l:List Nat) (hI:I X acc w) (hX : ∀x,X x->x<w.heap.size) (hl:acc.length+100*(m+1)+1000<M) (r:Rd w ao b off m l) (hb:0<m->b<B0) (hc:QX 0 l n) (hn:n<=2^40) :
  Calls Tryz.prog 159 #[.int .u64 (n:Int),.slice ao m cap,gv k B0] w fun e w'=>e = .returned (.tuple #[])∧I X (acc++rst 0 n l) w'∧Below B0 w w' ∧ ∀x,X x->w'.heap[x]? = w.heap[x]? := by
 have HS:Hid (I X acc w∧(∀x,X x->x<w.heap.size)∧acc.length+100*(m+1)+1000<M∧Rd w ao b off m l∧(0<m->b<B0)∧QX 0 l n∧n<=2^40):=⟨hI,hX,hl,r,hb,hc,hn⟩;have HM:Hid (M<=4611686018427387904):=hM;clear hI hX hl r hb hc hn hM
 go_enter Tryz.func159,Tryz.ntmps159;go_wp2
 go_loopg [6,8,11] m (fun g nx i8 ix wr => ∃(j next:Nat) (acc':List (Nat×Nat)),j<=m∧g=m - j∧ix = .int .i64 (j:Int)∧nx = .int .u64 (next:Int)∧I X acc' wr∧acc'++rst next n (l.drop j)=acc++rst 0 n l∧QX next (l.drop j) n∧Below B0 w wr∧(∀x,X x->wr.heap[x]? = w.heap[x]?)∧acc'.length<=acc.length+80*j)
 case atStart =>
  go_light;exact⟨0,0,acc,Lf _,rfl,rfl,rfl,HS.out.1,rfl,HS.out.2.2.2.2.2.1,Below.refl _ _,fun _ _=>rfl,Lb _⟩
 case round =>
  obtain⟨j,next,acc',hj,rfl,rfl,rfl,hI',hacc,hch,hbl,hkp,hlen⟩:=hrel;obtain⟨s1,s2,s3,s4,s5,s6,s7⟩:=HS.out;have hM9:=HM.out;have hj0:(0:Int)<=(j:Int):=Le _;have hm9:(j:Int)<=4611686018427387904:=by omega
  clear hM9
  by_cases hlt:j<m
  ·have hlt':(j:Int)<(m:Int):=by omega
   have r':=s4.at hbl s5;obtain rfl:=r'.addr (by omega)
   have cj:=r'.cell j hlt;have hd:=Qiw l j (by have:=s4.len;omega)
   obtain⟨x,hx⟩:=Ze (l.getD j 0);rw[hx] at cj hd;rw[hd] at hacc hch;obtain⟨hnx,hch2⟩:=hch;have hxn:=Ug hch2;have HE:=QbB hk G X acc' next x wr hI' (fun y hy=>LS (s2 y hy) hbl.size) (by omega) hnx (by omega)
   have ex:IntKind.u64.wrap ((x:Int)+1)=(x:Int)+1:=by rw[IntKind.wrap_u64];omega
   have HX:Hid (acc'++cov next x++rst (x+1) n (l.drop (j+1))=acc++rst 0 n l∧QX (x+1) (l.drop (j+1)) n∧Below B0 w wr∧(∀y,X y->wr.heap[y]? = w.heap[y]?)∧(acc'++cov next x).length<=acc.length+80*(j+1)∧j+1<=m):=by
    refine⟨by rw[Lt];exact hacc,hch2,hbl,hkp,?_,hlt⟩
    have:=OQ next x hnx (by omega)
    simp;omega
   clear hacc hch2 hbl hkp hlen hlt r' hd hx hnx hxn s1 s2 s3 s4 s5 s6 s7 hI' hj
   go_wp2_with (go_at_call 161;with_reducible refine HE.mono ?_;rintro e w1 ⟨rfl,hI1,hb1,hk1⟩)
   go_roundg (m - (j+1))
   case rel =>
    go_light;obtain⟨x1,x2,x3,x4,x5,x6⟩:=HX.out;refine⟨j+1,x+1,_,x6,rfl,by go_num,by go_num,hI1,x1,x2,x3.trans hb1,fun y hy=>(hk1 y hy).trans (x4 y hy),x5⟩
   case measure=>go_light;have:=HX.out.2.2.2.2.2;omega
  ·obtain rfl:j=m:=by omega
   have hlt' : ¬(j:Int)<(j:Int):=by omega
   have hdn:l.drop j=[]:=List.drop_eq_nil_iff.2 (by have:=s4.len;omega)
   rw[hdn] at hacc hch;have HE:=QbB hk G X acc' next n wr hI' (fun y hy=>LS (s2 y hy) hbl.size) (by omega) hch s7
   have HX:Hid (acc'++cov next n=acc++rst 0 n l∧Below B0 w wr∧(∀y,X y->wr.heap[y]? = w.heap[y]?)):=⟨hacc,hbl,hkp⟩;clear hacc hbl hkp hlen hlt hdn s1 s2 s3 s4 s5 s6 s7 hI' hj hch
   go_wp2_with (go_at_call 161;with_reducible refine HE.mono ?_;rintro e w1 ⟨rfl,hI1,hb1,hk1⟩)
   go_end0
   obtain⟨x1,x2,x3⟩:=HX.out;rw[x1] at hI1;exact⟨rfl,hI1,x2.trans hb1,fun y hy=>(hk1 y hy).trans (x3 y hy)⟩
theorem Qms(w:World):IC w.heap.size (fun _=>False) [] (w.alloc (.cells #[.int .u64 0] 28)):=⟨JM _ _,fun h=>h⟩
theorem QgV(n e:Nat)(w:World)(ao:OA)(b off m cap:Nat)(l:List Nat)(r:Rd w ao b off m l)(hm:m<=maxLen)(he:Yh n l=e)(h0:e≠0) :
  Calls Tryz.prog 166 #[.int .u64 (n:Int),.slice ao m cap] w fun x w'=>x = .returned (.tuple #[.int .u64 0,.int .i64 (e:Int)])∧Zb w w':=by
 have HC:=QW n w ao b off m cap l r hm;rw[he] at HC;have h0' : ¬(e:Int)=0:=by omega
 clear he r hm
 go_enter Tryz.func166,Tryz.ntmps166
 go_wp2_with (go_at_call 158;with_reducible refine HC.mono ?_;rintro x w1 ⟨rfl,hb⟩)
 go_ret2
 exact⟨rfl,hb⟩
theorem Qea(n:Nat)(w:World)(ao:OA)(b off m cap:Nat)(l:List Nat)(r:Rd w ao b off m l)(hm:m<=17592186044416)(he:Yh n l=0) :
  Calls Tryz.prog 166 #[.int .u64 (n:Int),.slice ao m cap] w fun x w'=>x = .returned (.tuple #[.int .u64 ((rst 0 n l).length:Nat),.int .i64 0])∧Zb w w':=by
 have HC:=QW n w ao b off m cap l r (by unfold maxLen;omega)
 obtain⟨g1,g2,g3,g4⟩:=Oa he;rw[he] at HC;have HE : ∀w1,Zb w w1->_:=fun w1 hb1=>Qdi (.inr (.inr rfl)) (Qfk w1.heap.size) (by decide) (fun _=>False) [] n (w1.alloc (.cells #[.int .u64 0] 28)) ao b off m cap l (Qms w1) (fun _ h=>h.elim) (by simp;omega) ((r.below hb1).below ((Below.refl _ w1).alloc (Lb _) _)) (fun h=>LS (r.lt h) hb1.size) g4 g1
 clear he r hm g1 g2 g3 g4
 go_enter Tryz.func166,Tryz.ntmps166
 go_upto_region 6 with (first
  | (go_at_call 158;with_reducible refine HC.mono ?_;rintro x w1 ⟨rfl,hb⟩;replace HE:=HE w1 hb)
  | (go_at_call 159;with_reducible refine HE.mono ?_;rintro x w2 ⟨rfl,hI,hb2,_⟩))
 have h1:=hI.at0;rw[NQ] at h1;have c0:=cell_of_one h1;have HF:Hid (Zb w w2):=hb.trans ((((Below.refl _ w1).alloc (Lb _) _).trans hb2).mono hb.size);clear h1 hI hb2 HE hb;go_wp2
 go_ret2
 exact⟨rfl,HF.out⟩
theorem Ut(n:Nat)(w:World)(ao:OA)(b off m cap:Nat)(l:List Nat)(r:Rd w ao b off m l)(hm:m<=17592186044416) :
  Calls Tryz.prog 166 #[.int .u64 (n:Int),.slice ao m cap] w fun x w'=>x = .returned (.tuple #[.int .u64 ((rstS n l).length:Nat),.int .i64 (Yh n l:Nat)])∧Zb w w':=by
 by_cases h:Yh n l=0
 ·rw[rstS,if_pos h,h];exact Qea n w ao b off m cap l r hm h
 ·rw[rstS,if_neg h];exact QgV n _ w ao b off m cap l r (by unfold maxLen;omega) rfl h
structure RdB(w:World)(ao:OA)(g n:Nat)(l:List (Int×Nat)):Prop where
 len:l.length=n
 addr:0<n->ao=some ⟨g,0,none⟩
 cell : ∀j,j<n->w.cell? ⟨g,j*2,none⟩=some (.int .i64 (l.getD j (0,0)).1)∧w.cell? ⟨g,j*2+1,none⟩=some (.int .u64 ((l.getD j (0,0)).2:Nat))
theorem RdB.below{w w':World}{ao:OA}{g n:Nat}{l:List (Int×Nat)}(r:RdB w ao g n l)(h:Zb w w'):RdB w' ao g n l :=
 ⟨r.len,r.addr,fun j hj=>⟨(h.cell (p:=⟨g,j*2,none⟩) (Lh w _ (r.cell j hj).1)).trans (r.cell j hj).1,(h.cell (p:=⟨g,j*2+1,none⟩) (Lh w _ (r.cell j hj).2)).trans (r.cell j hj).2⟩⟩
theorem Uc{w:World}{base:Nat}{v:Value}{l:List (Int×Nat)}(h:Qz w base v l) : ∃ao g n cap,v = .slice ao n cap∧RdB w ao g n l∧n<=maxLen:=by
 have h0:=h;obtain⟨h1,h2⟩:=h
 rcases h2 with ⟨rfl,h2⟩|⟨g,cap,cur,rfl,hg,hh,hc1,hc2,hc3,hc4⟩
 ·exact⟨none,0,0,0,rfl,⟨h2,fun h=>absurd h (by omega),fun j hj=>absurd hj (by omega)⟩,Lf _⟩
 ·refine⟨some ⟨g,0,none⟩,g,l.length,cap,rfl,⟨rfl,fun _=>rfl,fun j hj => ?_⟩,by omega⟩
  have hcl:=h0.cells (g:=g) rfl;obtain⟨⟨a,b⟩,hq⟩ : ∃q,l[j]=q:=⟨_,rfl⟩;have hget:l[j]? = some (a,b):=by rw[Lc hj,hq]
  obtain⟨e1,e2⟩:=Qc9 l j a b hget;have f1:=hcl _ _ e1;have f2:=hcl _ _ e2;rw[Addr.add_mid,Ll,LY] at f1 f2;rw[La,hget];exact⟨f1,f2⟩
theorem Qgg(w:World)(B:Nat)(cs:Array Value)(l:List (Int×Nat))(hcs:cs.toList=cB l)(hB:B<=w.heap.size)(hl:l.length<=1000) :
  Qz (w.alloc (.cells cs 83)) B (.slice (some ⟨w.heap.size,0,none⟩) l.length l.length) l:=by
 refine⟨Qw l,.inr ⟨w.heap.size,l.length,cs,rfl,hB,JM _ _,Lb _,by unfold maxLen;omega,?_,?_⟩⟩
 ·rw[<-Array.length_toList,hcs,Qw]
 ·rw[hcs,<-Qw,LR]
theorem YA{w w':World}{o:Obj}(h:Below (w.alloc o).heap.size (w.alloc o) w'):Zb w w' :=
 ((Below.refl _ w).alloc (Lb _) o).trans (h.mono (by simp))
abbrev bv(h k:Nat):Value := .agg #[.int .i64 (h:Int),.int .u64 (k:Int)]
def Row(q:Nat):Nat->List (Nat×Nat)->Prop
 | p,[]=>p=q
 | p,b::L=>p=b.2*pw b.1∧b.1<=40∧b.2<pw (40 - b.1)∧Row q ((b.2+1)*pw b.1) L
theorem Qgr{q m:Nat}{M:List (Nat×Nat)}(h':Row q m M) : ∀ {L:List (Nat×Nat)} {p:Nat},Row m p L->Row q p (L++M):=by
 intro L
 induction L with
 | nil=>intro p h;obtain rfl:p=m:=h;exact h'
 | cons b L ih=>intro p h;exact⟨h.1,h.2.1,h.2.2.1,ih h.2.2.2⟩
theorem Qj7{h k:Nat}(hb:(k+1)*pw h<=2^40):h<=40∧k<pw (40 - h):=by
 have h1:pw h<=(k+1)*pw h:=Nat.le_mul_of_pos_left _ (by omega)
 have hh:h<=40:=pw40 (by omega)
 refine⟨hh,?_⟩
 have e:(2:Nat)^40=pw (40 - h)*pw h:=by rw[<-Qax,show 40 - h+h=40 by omega];rfl
 rw[e] at hb;exact LS (Im k) (Nat.le_of_mul_le_mul_right hb (QB h))
theorem Qlq{lo hi:Nat}(hhi:hi<=2^40) : ∀ {L:List (Nat×Nat)} {p:Nat},lo<=p->Til (Rg lo hi) hi p L->Row hi p L:=by
 intro L
 induction L with
 | nil =>
  intro p h1 h2
  show p=hi
  have:=h2.1
  by_cases he:p=hi
  ·exact he
  ·exact absurd ⟨h1,by omega⟩ (h2.2 p (Lb _) (by omega))
 | cons b L ih =>
  intro p h1 h2;obtain⟨a1,a2,a3,a4,a5,a6⟩:=h2;have hlt:=Yr b.1 b.2;have hm:=Qj7 (Lm a2 hhi);refine⟨?_,hm.1,hm.2,ih (by omega) a6⟩
  by_cases he:p=b.2*pw b.1
  ·exact he
  ·exact absurd ⟨h1,by omega⟩ (a3 p (Lb _) (by omega))
theorem UI(lo hi:Nat)(h:lo<=hi)(hhi:hi<=2^40):Row hi lo (cov lo hi):=Qlq hhi (Lb _) (J7 lo hi h hhi)
theorem Qlp{A:Nat->Prop}{q:Nat} : ∀ {L:List (Nat×Nat)} {p:Nat},Til A q p L -> ∀b∈L,¬All A (b.1+1) (b.2 / 2)∧(b.2+1)*pw b.1<=q:=by
 intro L
 induction L with
 | nil=>intro p _ b hb;cases hb
 | cons c L ih =>
  intro p h b hb
  rcases LH.1 hb with rfl|hb
  ·exact⟨h.2.2.2.2.1,h.2.1⟩
  ·exact ih h.2.2.2.2.2 b hb
theorem Uf(L:List (Nat×Nat))(j:Nat):(zl L).getD j (0,0)=(((L.getD j (0,0)).1:Int),(L.getD j (0,0)).2):=by
 by_cases h:j<L.length
 ·simp[zl,List.getD_eq_getElem?_getD,List.getElem?_eq_getElem h]
 ·simp[zl,List.getD_eq_getElem?_getD,List.getElem?_eq_none (Nat.le_of_not_lt h)]
end Cv
namespace Cv
open Pl
def tin(lo hi:Nat):Nat->Nat->List (Nat×Nat)
 | 0,K=>if lo<=K*pw 0∧(K+1)*pw 0<=hi then [(0,K)] else []
 | H+1,K=>if lo<=K*pw (H+1)∧(K+1)*pw (H+1)<=hi then [(H+1,K)] else if (K+1)*pw (H+1)<=lo∨hi<=K*pw (H+1) then [] else tin lo hi H (2*K)++tin lo hi H (2*K+1)
def inb(H K i:Nat):Bool:=decide (K*pw H<=i) && decide (i<(K+1)*pw H)
def tno:Nat->Nat->List Nat->List (Nat×Nat)
 | 0,K,S=>if (S.filter (inb 0 K)).length=0 then [(0,K)] else []
 | H+1,K,S=>if (S.filter (inb (H+1) K)).length=0 then [(H+1,K)] else tno H (2*K) (S.filter (inb (H+1) K))++tno H (2*K+1) (S.filter (inb (H+1) K))
theorem Yj{H K i:Nat} : inb H K i=true↔K*pw H<=i∧i<(K+1)*pw H:=by simp[inb]
theorem Ua(H K:Nat):(2*K)*pw H=K*pw (H+1):=(QJ K H).symm
theorem U4(H K:Nat):(2*K+1)*pw H=K*pw (H+1)+pw H:=by rw[LI,LP,Ua]
theorem Jm(H K:Nat):(2*K+1+1)*pw H=(K+1)*pw (H+1):=by rw[show 2*K+1+1=2*(K+1) by omega,Ua]
theorem ON(H K:Nat):(K+1)*pw (H+1)=K*pw (H+1)+pw H+pw H:=by rw[LI,LP,QK];omega
theorem Qbf{A:Nat->Prop}{H K:Nat}(ha:All A H K)(hp : ¬All A (H+1) (K / 2)):Til A ((K+1)*pw H) (K*pw H) [(H,K)] :=
 ⟨Lb _,Lb _,fun i h1 h2=>by dsimp only at h2;omega,ha,hp,Lb _,fun i h1 h2=>by dsimp only at h1;omega⟩
theorem Qls(lo hi:Nat) : ∀H K,¬All (Rg lo hi) (H+1) (K / 2)->Til (Rg lo hi) ((K+1)*pw H) (K*pw H) (tin lo hi H K):=by
 intro H
 induction H with
 | zero =>
  intro K hp;rw[tin];have e0:pw 0=1:=rfl
  split
  ·rename_i h
   exact Qbf (fun i h1 h2=>⟨by omega,by omega⟩) hp
  ·rename_i h
   refine⟨by rw[e0];omega,fun i h1 h2 hr=>h ?_⟩
   rw[e0] at *;have h1':=hr.1;have h2':=hr.2;omega
 | succ H ih =>
  intro K hp;rw[tin];have hb:=ON H K;have hpp:=QB H
  split
  ·rename_i h
   exact Qbf (fun i h1 h2=>⟨by omega,by omega⟩) hp
  ·rename_i h
   split
   ·rename_i h'
    exact⟨by omega,fun i h1 h2 hr=>by have h1':=hr.1;have h2':=hr.2;omega⟩
   ·rename_i h'
    have hno : ¬All (Rg lo hi) (H+1) K:=fun hall=>h ⟨(hall _ (Lb _) (by omega)).1,by
     have:=(hall ((K+1)*pw (H+1) - 1) (by omega) (by omega)).2;omega⟩
    have t1:=ih (2*K) (by rw[show 2*K / 2=K by omega];exact hno)
    have t2:=ih (2*K+1) (by rw[show(2*K+1) / 2=K by omega];exact hno)
    rw[Jm] at t2;rw[Ua] at t1;exact Qal t2 t1
theorem Qlu(A:Nat->Prop) : ∀H K (S:List Nat),(∀i,K*pw H<=i->i<(K+1)*pw H->(A i↔i ∉ S)) -> ¬All A (H+1) (K / 2)->Til A ((K+1)*pw H) (K*pw H) (tno H K S):=by
 intro H
 induction H with
 | zero =>
  intro K S hA hp;rw[tno];have e0:pw 0=1:=rfl
  split
  ·rename_i h
   refine Qbf (fun i h1 h2=>(hA i h1 h2).2 (fun hi => ?_)) hp
   have hm:i∈S.filter (inb 0 K):=Nr.2 ⟨hi,Yj.2 ⟨h1,h2⟩⟩;rw[LG.1 h] at hm
   cases hm
  ·rename_i h
   refine⟨by rw[e0];omega,fun i h1 h2 hr=>h ?_⟩
   cases hm:S.filter (inb 0 K) with
   | nil=>rfl
   | cons s M =>
    have hs:s∈S.filter (inb 0 K):=by rw[hm];exact Nq
    obtain⟨g1,g2⟩:=Nr.1 hs;obtain⟨g3,g4⟩:=Yj.1 g2;rw[e0] at *;obtain rfl:i=s:=by omega
    exact absurd g1 ((hA i h1 h2).1 hr)
 | succ H ih =>
  intro K S hA hp;rw[tno];have hb:=ON H K;have hpp:=QB H
  split
  ·rename_i h
   refine Qbf (fun i h1 h2=>(hA i h1 h2).2 (fun hi => ?_)) hp
   have hm:i∈S.filter (inb (H+1) K):=Nr.2 ⟨hi,Yj.2 ⟨h1,h2⟩⟩;rw[LG.1 h] at hm
   cases hm
  ·rename_i h
   have hno : ¬All A (H+1) K:=fun hall=>h (by
    cases hm:S.filter (inb (H+1) K) with
    | nil=>rfl
    | cons s M =>
     have hs:s∈S.filter (inb (H+1) K):=by rw[hm];exact Nq
     obtain⟨g1,g2⟩:=Nr.1 hs;obtain⟨g3,g4⟩:=Yj.1 g2;exact absurd g1 ((hA s g3 g4).1 (hall s g3 g4)))
   have hM : ∀i,K*pw (H+1)<=i->i<(K+1)*pw (H+1)->(A i↔i ∉ S.filter (inb (H+1) K)):=fun i h1 h2=>by
    rw[hA i h1 h2,Nr,Yj];exact⟨fun h g=>h g.1,fun h g=>h ⟨g,h1,h2⟩⟩
   have e1:=Ua H K;have e2:=U4 H K;have e3:=Jm H K;have t1:=ih (2*K) (S.filter (inb (H+1) K)) (fun i h1 h2=>hM i (by omega) (by omega)) (by rw[show 2*K / 2=K by omega];exact hno)
   have t2:=ih (2*K+1) (S.filter (inb (H+1) K)) (fun i h1 h2=>hM i (by omega) (by omega)) (by rw[show(2*K+1) / 2=K by omega];exact hno)
   rw[Jm] at t2;rw[Ua] at t1;exact Qal t2 t1
theorem QmB{A:Nat->Prop}{n:Nat}(t:Nat->Nat->List (Nat×Nat))(ht : ∀h k,(k+1)*pw h<=n -> ¬All A (h+1) (k / 2)->Til A ((k+1)*pw h) (k*pw h) (t h k))(hn : ¬A n) :
  ∀h x,(∃c,x=c*pw h)->n - x<pw h->x<=n->Til A n x ((dnL h x n).flatMap (fun b=>t b.1 b.2)):=by
 intro h
 induction h with
 | zero =>
  intro x _ h2 h3;rw[Ue] at h2;exact⟨h3,fun i h5 h6=>by omega⟩
 | succ h ih =>
  intro x h1 h2 h3;obtain⟨c,hc⟩:=h1;have hp:=QB h;have hps:=QK h;rw[QJ] at hc;rw[dnL]
  split
  ·rename_i hfit
   have hk:x / pw h=2*c:=by rw[hc];exact Ng _ hp
   have e1:(2*c+1)*pw h=x+pw h:=by rw[LI,LP,<-hc]
   have e2:2*c / 2=c:=by omega
   have e3:c*pw (h+1)=x:=by rw[QJ];exact hc.symm
   rw[hk,NP];have t1:=ht h (2*c) (by omega) (by rw[e2];exact fun hall=>hn (hall n (by omega) (by rw[LI,LP,e3];omega)))
   have t2:=ih (x+pw h) ⟨2*c+1,e1.symm⟩ (by omega) (by omega)
   rw[<-e1] at t2;rw[<-hc] at t1;rw[<-e1];exact Qal t2 t1
  ·exact ih x ⟨2*c,hc⟩ (by omega) h3
theorem mt_all {A:Nat->Prop} {n:Nat} (t:Nat->Nat->List (Nat×Nat)) (ht : ∀h k,(k+1)*pw h<=n -> ¬All A (h+1) (k / 2)->Til A ((k+1)*pw h) (k*pw h) (t h k)) (hn : ¬A n) (h40:n<=2^40) :
    Til A n 0 ((dnL 41 0 n).flatMap (fun b=>t b.1 b.2)) :=
  QmB t ht hn 41 0 ⟨0, by simp⟩ (by have : pw 41 = 2 ^ 41:=rfl
                                    omega) (Lf _)
theorem QcL(lo hi n:Nat)(h1:lo<=hi)(h2:hi<=n)(h3:n<=2^40):cov lo hi=(dnL 41 0 n).flatMap (fun b=>tin lo hi b.1 b.2):=by
 have t1:=J7 lo hi h1 (by omega)
 have t2:Til (Rg lo hi) n 0 (cov lo hi):=QdO (Qlr t1 h2 (fun i i1 i2 hr=>by have:=hr.2;omega)) (Lf _) (fun i i1 i2 hr=>by have:=hr.1;omega)
 exact Qgy t2 (mt_all (tin lo hi) (fun h k _ hp=>Qls lo hi h k hp) (fun hr=>by have:=hr.2;omega) h3)
theorem QkV(h k:Nat):k / 2*pw (h+1)<=k*pw h∧(k+1)*pw h<=(k / 2+1)*pw (h+1):=by
 rw[QJ,QJ];exact⟨Lo _ (by omega),Lo _ (by omega)⟩
theorem Qgz{A:Nat->Prop}{lo hi:Nat}(hA : ∀j,lo<=j->j<hi->A j)(hl:lo=0 ∨ ¬A (lo - 1))(hh : ¬A hi) : ∀ {L:List (Nat×Nat)} {p:Nat},lo<=p->Til (Rg lo hi) hi p L->Til A hi p L:=by
 intro L
 induction L with
 | nil=>intro p h1 h2;exact⟨h2.1,fun i i1 i2=>absurd ⟨by omega,i2⟩ (h2.2 i i1 i2)⟩
 | cons b L ih =>
  intro p h1 h2;obtain⟨a1,a2,a3,a4,a5,a6⟩:=h2;have hlt:=Yr b.1 b.2;refine⟨a1,a2,fun i i1 i2=>absurd ⟨by omega,by omega⟩ (a3 i i1 i2),fun i i1 i2=>hA i (by omega) (by omega),fun hall=>a5 (fun i i1 i2 => ?_),ih (by omega) a6⟩
  obtain⟨p1,p2⟩:=QkV b.1 b.2;refine⟨?_,?_⟩
  ·by_cases hlo:lo<=i
   ·exact hlo
   ·rcases hl with hl|hl
    ·omega
    ·exact absurd (hall (lo - 1) (by omega) (by omega)) hl
  ·by_cases hhi:i<hi
   ·exact hhi
   ·exact absurd (hall hi (by omega) (by omega)) hh
theorem QgR : ∀ {S:List Nat} {x n:Nat},QX x S n -> ∀s∈S,x<=s∧s<n:=by
 intro S
 induction S with
 | nil=>intro x n _ s hs;cases hs
 | cons i S ih =>
  intro x n h s hs;have h1:=h.1;have h2:=Ug h.2
  rcases LH.1 hs with rfl|hs
  ·exact⟨h1,by omega⟩
  ·have:=ih h.2 s hs;omega
theorem Qk9{A:Nat->Prop}{n:Nat}(hn:n<=2^40) : ∀(S:List Nat) (x:Nat),(∀i,x<=i->(A i↔i<n∧i ∉ S))->(x=0 ∨ ¬A (x - 1))->QX x S n->Til A n x (rst x n S):=by
  intro S
  induction S with
  | nil =>
    intro x hA hx hc;have hc':x<=n:=hc;exact Qgz (fun j j1 j2=>(hA j j1).2 ⟨j2,by simp⟩) hx (fun h=>by have:=((hA n hc').1 h).1;omega) (Lb _) (J7 x n hc' hn)
  | cons i S ih =>
    intro x hA hx hc;obtain⟨c1,c2⟩:=hc;have hin:=Ug c2;have hni : ¬A i:=fun h=>((hA i c1).1 h).2 Nq
    have t1:Til A i x (cov x i):=Qgz (fun j j1 j2=>(hA j j1).2 ⟨by omega,fun hj=>by
      rcases LH.1 hj with rfl|hj
      · omega
      · have:=QgR c2 j hj;omega⟩) hx hni (Lb _) (J7 x i c1 (by omega))
    have t2:Til A n (i+1) (rst (i+1) n S):=ih (i+1) (fun j j1=>by
      rw[hA j (by omega)]
      refine⟨fun h=>⟨h.1,fun hj=>h.2 (LX _ hj)⟩,fun h=>⟨h.1,fun hj => ?_⟩⟩
      rcases LH.1 hj with rfl|hj
      · omega
      · exact h.2 hj) (.inr (by rw[Ni];exact hni)) c2
    exact Qal (QdO t2 (Nat.le_succ i) (fun j j1 j2=>by obtain rfl : j = i:=by omega
                                                       exact hni)) t1
abbrev But(n:Nat)(S:List Nat):Nat->Prop:=fun i=>i<n∧i ∉ S
theorem Qgw(n:Nat)(S:List Nat)(hn:n<=2^40)(hc:QX 0 S n):Til (But n S) n 0 (rst 0 n S):=Qk9 hn S 0 (fun _ _=>Iff.rfl) (.inl rfl) hc
theorem QeH(n:Nat)(S:List Nat)(hn:n<=2^40)(hc:QX 0 S n):rst 0 n S=(dnL 41 0 n).flatMap (fun b=>tno b.1 b.2 S) :=
 Qgy (Qgw n S hn hc) (mt_all (fun h k=>tno h k S) (fun h k hk hp=>Qlu _ h k S (fun i _ i2=>⟨fun h=>h.2,fun h=>⟨by omega,h⟩⟩) hp) (fun h=>by have:=h.1;omega) hn)
theorem Qbg(lo hi:Nat) : ∀H K,(tin lo hi H K).length<=pw H:=by
 intro H
 induction H with
 | zero=>intro K;rw[tin];split <;> simp[pw]
 | succ H ih =>
  intro K;have:=QB H;rw[tin,QK]
  split
  ·simp;omega
  ·split
   ·simp
   ·have h1:=ih (2*K);have h2:=ih (2*K+1);simp;omega
theorem QgA(H:Nat) : ∀K S,(tno H K S).length<=pw H:=by
 induction H with
 | zero=>intro K S;rw[tno];split <;> simp[pw]
 | succ H ih =>
  intro K S;have:=QB H;rw[tno,QK]
  split
  ·simp;omega
  ·have h1:=ih (2*K) (S.filter (inb (H+1) K));have h2:=ih (2*K+1) (S.filter (inb (H+1) K));simp;omega
theorem Qji(H K:Nat) : ∀M:List Nat,(∀i∈M,inb (H+1) K i=true)->(M.filter (inb H (2*K))).length+(M.filter (inb H (2*K+1))).length=M.length:=by
 have e1:=Ua H K;have e2:=U4 H K;have e3:=Jm H K;intro M
 induction M with
 | nil=>intro _;rfl
 | cons i M ih =>
  intro h;have h1:=Yj.1 (h i Nq);have h2:=ih (fun j hj=>h j (LX _ hj))
  by_cases hm:i<(2*K+1)*pw H
  ·have a1:inb H (2*K) i=true:=Yj.2 ⟨by omega,hm⟩
   have a2:inb H (2*K+1) i=false:=by
    cases hb:inb H (2*K+1) i with
    | false=>rfl
    | true=>have:=(Yj.1 hb).1;omega
   rw[NG a1,Nl (by rw[a2];decide),Lu,Lu];omega
  ·have a1:inb H (2*K+1) i=true:=Yj.2 ⟨by omega,by omega⟩
   have a2:inb H (2*K) i=false:=by
    cases hb:inb H (2*K) i with
    | false=>rfl
    | true=>have:=(Yj.1 hb).2;omega
   rw[NG a1,Nl (by rw[a2];decide),Lu,Lu];omega
theorem Qdk(S:List Nat)(H K:Nat) : ∀i∈S.filter (inb H K),inb H K i=true:=fun _ hi=>(Nr.1 hi).2
theorem QaF : ∀H K (S:List Nat),((S.filter (inb H K)).length=0->(tno H K S).length=1)∧((S.filter (inb H K)).length≠0->(tno H K S).length<=(S.filter (inb H K)).length*H):=by
 intro H
 induction H with
 | zero =>
  intro K S;refine⟨fun h=>by rw[tno,if_pos h];rfl,fun h=>by rw[tno,if_neg h];simp⟩
 | succ H ih =>
  intro K S;refine⟨fun h=>by rw[tno,if_pos h];rfl,fun h => ?_⟩
  rw[tno,if_neg h,Ld];have hp:=Qji H K (S.filter (inb (H+1) K)) (Qdk S (H+1) K);obtain⟨l0,l1⟩:=ih (2*K) (S.filter (inb (H+1) K));obtain⟨r0,r1⟩:=ih (2*K+1) (S.filter (inb (H+1) K));generalize ((S.filter (inb (H+1) K)).filter (inb H (2*K))).length=a at *;generalize ((S.filter (inb (H+1) K)).filter (inb H (2*K+1))).length=b at *;generalize (tno H (2*K) (S.filter (inb (H+1) K))).length=x at *;generalize (tno H (2*K+1) (S.filter (inb (H+1) K))).length=y at *;generalize (S.filter (inb (H+1) K)).length=c at *;subst hp;rw[Nat.mul_add,NN,LI]
  by_cases ha:a=0
  ·have:=l0 ha;have hb:b≠0:=by omega
   have:=r1 hb;subst ha;omega
  ·have:=l1 ha
   by_cases hb:b=0
   ·have:=r0 hb;subst hb;omega
   ·have:=r1 hb;omega
theorem Y4 : ∀ {S:List Nat} {a n:Nat} (_:QX a S n) (j:Nat),j<S.length->S.getD j 0<n∧a<=S.getD j 0 ∧ ∀t,t<j->S.getD t 0<S.getD j 0:=by
 intro S
 induction S with
 | nil=>intro a n _ j hj;simp at hj
 | cons s r ih =>
  intro a n h j hj;have hle:=Ug h.2
  cases j with
  | zero=>exact⟨by simp;omega,by simpa using h.1,fun t ht=>absurd ht (NC t)⟩
  | succ j =>
   obtain⟨g1,g2,g3⟩:=ih h.2 j (by simp at hj;omega)
   have h1:=h.1;refine⟨by simpa using g1,by simp;simp at g2;omega,fun t ht => ?_⟩
   cases t with
   | zero=>simp;simp at g2;omega
   | succ t=>have:=g3 t (by omega);simpa using this
theorem Qcq{S:List Nat}{n:Nat}(h:QX 0 S n)(h0:S≠[])(hn:n<=2^40):Yh n S=0:=by
 have hl:0<S.length:=List.length_pos_iff.2 h0;have hi:Inc S:=⟨hl,fun i hi=>(Y4 h (i+1) hi).2.2 i (by omega)⟩
 have hlast:=(Y4 h (S.length - 1) (by omega)).1
 rw[Yh,if_neg (by omega),if_neg (by rw[(U5 S).2 hi];decide),if_neg (by omega)]
end Cv
section
open Pl (pw QK QB Ue)
open Cv (tno inb Yj)
def bl(S:List Nat)(x:Nat):Nat:=(S.filter fun i=>decide (i<x)).length
abbrev Asc(S:List Nat):Prop:=S.Pairwise (· < ·)
def vB(c:Nat):Nat->Nat->List Nat->LB->LB->BA
 | 0,_,S,X,D=>if S.length=0 then D.getD 0 ByteArray.empty else dg c (Qm (X.getD 0 ByteArray.empty))
 | h+1,k,S,X,D=>if S.length=0 then D.getD 0 ByteArray.empty else dg c (QE (vB c h (2*k) (S.take (bl S ((2*k+1)*pw h))) (X.take (bl S ((2*k+1)*pw h))) D) (vB c h (2*k+1) (S.drop (bl S ((2*k+1)*pw h))) (X.drop (bl S ((2*k+1)*pw h))) (D.drop (tno h (2*k) (S.take (bl S ((2*k+1)*pw h)))).length)))
def Tl(c:Nat)(K:List ((Nat×Nat)×BA)):Nat->Nat->BA->Prop
 | 0,k,v=>((0,k),v)∈K
 | h+1,k,v=>((h+1,k),v)∈K∨((∀u,((h+1,k),u) ∉ K) ∧ ∃x y,Tl c K h (2*k) x∧Tl c K h (2*k+1) y∧v=dg c (QE x y))
theorem Tl.at{c:Nat}{K:List ((Nat×Nat)×BA)}{h k:Nat}{v:BA}(e:((h,k),v)∈K):Tl c K h k v:=by
 cases h with
 | zero=>exact e
 | succ h=>exact .inl e
theorem JI{α:Type}(d:α)(A B:List α)(j:Nat):(A++B).getD (A.length+j) d=B.getD j d:=by
 rw[La,LM (by omega),Ia,La]
theorem JJ{α:Type}(d:α)(A B:List α){j:Nat}(h:j<A.length):(A++B).getD j d=A.getD j d:=by
 rw[La,LN h,La]
theorem Qkw{α:Type}(d:α)(A:List α){t j:Nat}(h:j<t):(A.take t).getD j d=A.getD j d:=by
 rw[La,Nf,if_pos h,La]
def pB(c:Nat):List (Nat×Nat)->List Nat->LB->LB->LB
 | [],_,_,_=>[]
 | m::M,S,X,D=>vB c m.1 m.2 (S.take (bl S ((m.2+1)*pw m.1))) (X.take (bl S ((m.2+1)*pw m.1))) D::pB c M (S.drop (bl S ((m.2+1)*pw m.1))) (X.drop (bl S ((m.2+1)*pw m.1))) (D.drop (tno m.1 m.2 (S.take (bl S ((m.2+1)*pw m.1)))).length)
theorem Qjw{q:Nat} : ∀ {M:List (Nat×Nat)} {p:Nat},Cv.Row q p M->p<=q
 | [],_,h=>Iy h
 | m::M,p,h=>by
  have:=Qjw h.2.2.2;have h1:=Cv.Yr m.1 m.2;have h2:=h.1;omega
theorem JZ{q:Nat} : ∀ {M:List (Nat×Nat)} {p:Nat},Cv.Row q p M -> ∀b∈M,p<=b.2*pw b.1∧(b.2+1)*pw b.1<=q
 | [],_,_,b,hb=>by cases hb
 | m::M,p,h,b,hb=>by
  rcases LH.1 hb with rfl|hb
  ·exact⟨Iy h.1,Qjw h.2.2.2⟩
  ·have:=JZ h.2.2.2 b hb;have h1:=Cv.Yr m.1 m.2;have h2:=h.1;exact⟨by omega,this.2⟩
end
end Go.Proofs.YtdocjikpcbmcgaaGreatDoor
