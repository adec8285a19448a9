/- Own work. -/
import Derived.Test.YtdocjikpcbmcgaaGreatDoorQn04
set_option maxRecDepth 100000
set_option maxHeartbeats 1000000
namespace Go.Proofs.YtdocjikpcbmcgaaGreatDoor
open Go.RowKit
attribute [local go_sem ↓] Go.wp_at_zero Go.wp_at_succ
open Go.Proofs.Tryz
namespace Cv
open Pl
structure Rd(w:World)(ao:OA)(b off n:Nat)(l:List Nat):Prop where
 len:l.length=n
 addr:0<n->ao=some ⟨b,off,none⟩
 cell : ∀j,j<n->w.cell? ⟨b,off+j,none⟩=some (.int .u64 (l.getD j 0:Nat))
theorem Rd.below{w w':World}{ao:OA}{b off n:Nat}{l:List Nat}(r:Rd w ao b off n l)(h:Zb w w'):Rd w' ao b off n l :=
 ⟨r.len,r.addr,fun j hj=>(h.cell (p:=⟨b,off+j,none⟩) (Lh w _ (r.cell j hj))).trans (r.cell j hj)⟩
theorem Rd.lt{w:World}{ao:OA}{b off n:Nat}{l:List Nat}(r:Rd w ao b off n l)(h:0<n):b<w.heap.size:=Lh w ⟨b,off+0,none⟩ (r.cell 0 h)
theorem Rd.at{w w':World}{ao:OA}{b off n B:Nat}{l:List Nat}(r:Rd w ao b off n l)(h:Below B w w')(hb:0<n->b<B):Rd w' ao b off n l :=
 ⟨r.len,r.addr,fun j hj=>(LC (h.block b (hb (by omega)))).trans (r.cell j hj)⟩
def Inc(l:List Nat):Prop:=0<l.length ∧ ∀i,i+1<l.length->l.getD i 0<l.getD (i+1) 0
def YE(l:List Nat):Bool:=decide (0<l.length) && (List.range (l.length - 1)).all (fun i=>decide (l.getD i 0<l.getD (i+1) 0))
theorem QY(l:List Nat):YE l=true↔Inc l:=by
 unfold YE Inc;rw[IS,decide_eq_true_iff,List.all_eq_true]
 constructor
 ·rintro⟨h1,h2⟩;exact⟨h1,fun i hi=>by simpa using h2 i (List.mem_range.2 (by omega))⟩
 ·rintro⟨h1,h2⟩;exact⟨h1,fun i hi=>by have:=List.mem_range.1 hi;simpa using h2 i (by omega)⟩
def QT:Nat->List Nat->Nat->Prop
 | x,[],n=>x<=n
 | x,i::S,n=>x<=i∧QT (i+1) S n
theorem YW : ∀ {S:List Nat} {x n:Nat},QT x S n->x<=n:=by
 intro S
 induction S with
 | nil=>intro x n h;exact h
 | cons i S ih=>intro x n h;have:=ih h.2;have:=h.1;omega
theorem QeE : ∀(l:List Nat) (x n:Nat),(∀i,i+1<l.length->l.getD i 0<l.getD (i+1) 0)->(0<l.length->x<=l.getD 0 0)->(0<l.length->l.getD (l.length - 1) 0<n)->x<=n->QT x l n:=by
 intro l
 induction l with
 | nil=>intro x n _ _ _ h;exact h
 | cons a l ih =>
  intro x n h1 h2 h3 h4;refine⟨by simpa using h2 (by simp),ih (a+1) n (fun i hi => ?_) (fun h => ?_) (fun h => ?_) ?_⟩
  ·have:=h1 (i+1) (by simp;omega)
   simpa using this
  ·have:=h1 0 (by simp;omega)
   simp at this ⊢;omega
  ·have:=h3 (by simp)
   rw[show(a::l).length - 1=(l.length - 1)+1 by simp;omega] at this
   simpa using this
  ·cases l with
   | nil=>have:=h3 (by simp);simp at this;omega
   | cons b l =>
    have h5 : ∀j,j<(b::l).length->a<(a::b::l).getD (j+1) 0:=fun j=>by
     induction j with
     | zero=>intro _;have:=h1 0 (by simp);simpa using this
     | succ j ihj=>intro hj;have g1:=ihj (by omega);have g2:=h1 (j+1) (by simp at *;omega);omega
    have h6:=h5 l.length (by simp)
    have h7:=h3 (by simp)
    simp only[List.length_cons,Nat.add_sub_cancel] at h7;omega
def QR(n:Nat)(l:List Nat):Nat:=if 2^40<n then 30 else if YE l=false then 40 else if n<=l.getD (l.length - 1) 0 then 31 else 0
def rstS(n:Nat)(l:List Nat):List (Nat×Nat):=if QR n l=0 then rst 0 n l else []
theorem QJ{n:Nat}{l:List Nat}(h:QR n l=0):n<=2^40∧Inc l∧l.getD (l.length - 1) 0<n∧QT 0 l n:=by
 unfold QR at h
 split at h
 ·cases h
 ·rename_i h1
  split at h
  ·cases h
  ·rename_i h2
   split at h
   ·cases h
   ·rename_i h3
    have hi:Inc l:=(QY l).1 (by cases hb:YE l with
     | true=>rfl
     | false=>exact absurd hb h2)
    exact⟨by omega,hi,by omega,QeE l 0 n hi.2 (fun _=>Ll _) (fun _=>by omega) (Ll _)⟩
theorem Qip(w:World)(ao:OA)(b off n cap:Nat)(l:List Nat)(r:Rd w ao b off n l)(hn:n<=maxLen) :
  Zr 180 #[.slice ao n cap] w (.bool (YE l)):=by
 have xF:(n:Int)<=9223372036854775807:=by unfold maxLen at hn;omega
 have HR:Hid (Rd w ao b off n l):=r;clear hn r
 go_enter func180,ntmps180;go_wp2
 go_loopg [3] n (fun g i wr => ∃k:Nat,(k<=n∨k=1)∧1<=k∧g=n+1 - k∧i = .int .i64 (k:Int)∧(∀j,j+1<k->l.getD j 0<l.getD (j+1) 0)∧Zb w wr)
 case atStart=>go_light;exact⟨1,.inr rfl,Ld _,by omega,rfl,fun j hj=>absurd hj (by omega),Lb _ _⟩
 case round =>
  obtain⟨k,hk,xE,rfl,rfl,he,hb⟩:=hrel;have xD:(0:Int)<=(k:Int):=Lf _
  by_cases hlt:k<n
  ·obtain⟨i,rfl⟩ : ∃i,k=i+1:=⟨k - 1,by omega⟩
   have r1:=HR.out.below hb;obtain rfl:=r1.addr (by omega)
   have c1:=r1.cell (i+1) hlt;have c2:=r1.cell i (by omega)
   have hz:((i+1:Nat):Int)<(n:Int):=by omega
   have ei:(((i+1:Nat):Int) - 1)=(i:Int):=by omega
   have ec:((i+1:Nat):Int)=(i:Int)+1:=by omega
   have xH:(i:Int)+1<(n:Int):=by omega
   have xI:(i:Int)<(n:Int):=by omega
   have xB:(0:Int)<=(i:Int):=Lf _;have xC:(0:Int)<=(i:Int)+1:=by omega
   have HB:Hid (Zb w wr):=hb;have HE:Hid (∀j,j+1<i+1->l.getD j 0<l.getD (j+1) 0):=he;have HI:Hid (¬l.getD i 0<l.getD (i+1) 0->YE l=false):=fun hno=>by
    cases hB:YE l with
    | false=>rfl
    | true=>exact absurd (((QY l).1 hB).2 i (by have:=HR.out.len;omega)) hno
   obtain⟨x,hx⟩:=Ze (l.getD (i+1) 0);obtain⟨y,hy⟩:=Ze (l.getD i 0);rw[hx] at c1;rw[hy] at c2;rw[hx,hy] at HI;have HX:Hid (l.getD (i+1) 0=x∧l.getD i 0=y):=⟨hx,hy⟩;have xA:i+1<n:=hlt;clear hx hy r1 hb he hk hlt
   by_cases hxy:x<=y
   ·have HN:Hid (YE l=false):=HI.out (by omega)
    go_wp2
    go_quiet (fail)
    go_wp2
    go_ret
    exact⟨by rw[HN.out];rfl,Qd HB.out _⟩
   ·go_wp2
    go_quiet (fail)
    go_wp2
    go_roundg (n+1 - (i+1+1))
    case rel =>
     go_light;refine⟨i+1+1,by omega,by omega,rfl,by go_num,fun j hj => ?_,Qd HB.out _⟩
     by_cases hjk:j=i
     ·subst hjk;rw[HX.out.1,HX.out.2];omega
     ·exact HE.out j (by omega)
    case measure=>go_light;omega
  ·have hz : ¬(k:Int)<(n:Int):=by omega
   have xG : ¬k<n:=by omega
   have HN:Hid (decide ((0:Int)<(n:Int))=YE l):=by
    have hl:=HR.out.len
    cases hB:YE l with
    | true=>have:=((QY l).1 hB).1;exact Ln (by omega)
    | false =>
     refine Lj (fun hp => ?_)
     have:YE l=true:=(QY l).2 ⟨by omega,fun i hi=>he i (by omega)⟩
     rw[this] at hB;cases hB
   have HB:Hid (Zb w wr):=hb;clear he hb hk;go_wp2
   go_ret
   refine⟨?_,HB.out⟩
   have:=HN.out;simp at this ⊢;exact this
theorem QV(m:Nat)(w:World)(ao:OA)(b off n cap:Nat)(l:List Nat)(r:Rd w ao b off n l)(hn:n<=maxLen) :
  Zr 158 #[.int .u64 (m:Int),.slice ao n cap] w (.int .i64 (QR m l:Nat)):=by
 have HR:=Qip w ao b off n cap l r hn;have xE:(n:Int)<=9223372036854775807:=by unfold maxLen at hn;omega
 by_cases h1:2^40<m
 ·have ht:decide ((1099511627776:Int)<(m:Int))=true:=Ln (by omega)
  have he:QR m l=30:=by rw[QR,Lm h1]
  rw[he];clear h1 he
  go_enter func158,ntmps158;go_wp2
  go_ret
  exact⟨rfl,Lb _ _⟩
 ·have ht:decide ((1099511627776:Int)<(m:Int))=false:=Lj (by omega)
  cases h2:YE l with
  | false =>
   have he:QR m l=40:=by rw[QR,Le h1,Lm h2]
   rw[he];rw[h2] at HR;clear h1 he
   go_enter func158,ntmps158
   go_wp2_with (go_at_call 180;with_reducible refine HR.mono ?_;rintro e w1 ⟨rfl,hb⟩)
   go_ret
   exact⟨rfl,hb⟩
  | true =>
   have h3:=(QY l).1 h2;have hl:=r.len;rw[h2] at HR;obtain⟨j,rfl⟩ : ∃j,n=j+1:=⟨n - 1,by have:=h3.1;omega⟩
   obtain rfl:=r.addr (by omega)
   have hc:=r.cell j (by omega)
   have e1:(((j+1:Nat):Int) - 1)=(j:Int):=by omega
   have e2:((j+1:Nat):Int)=(j:Int)+1:=by omega
   have xF:(j:Int)<(j:Int)+1:=by omega
   have xD:(0:Int)<=(j:Int):=Lf _;have xA:l.getD (l.length - 1) 0=l.getD j 0:=by rw[hl];rfl
   obtain⟨x,hx⟩:=Ze (l.getD j 0);rw[hx] at hc xA;have xB : ∀w',Zb w w'->w'.cell? ⟨b,off+j,none⟩=some (.int .u64 (x:Int)):=fun w' hb=>(hb.cell (p:=⟨b,off+j,none⟩) (Lh w _ hc)).trans hc
   by_cases h4:m<=x
   ·have he:QR m l=31:=by rw[QR,Le h1,Le (by rw[h2];decide),Lm (by rw[xA];exact h4)]
    rw[he];have xC:(m:Int)<=(x:Int):=by omega
    clear h1 he h2 h3 hl hx xA r hn
    go_enter func158,ntmps158
    go_wp2_with (go_at_call 180;with_reducible refine HR.mono ?_;rintro e w1 ⟨rfl,hb⟩;have c1:=xB w1 hb)
    go_ret
    exact⟨rfl,hb⟩
   ·have he:QR m l=0:=by rw[QR,Le h1,Le (by rw[h2];decide),Le (by rw[xA];exact h4)]
    rw[he];have xC : ¬(m:Int)<=(x:Int):=by omega
    clear h1 he h2 h3 hl hx xA r hn
    go_enter func158,ntmps158
    go_wp2_with (go_at_call 180;with_reducible refine HR.mono ?_;rintro e w1 ⟨rfl,hb⟩;have c1:=xB w1 hb)
    go_ret
    exact⟨rfl,hb⟩
theorem Qjd(l:List Nat)(j:Nat)(h:j<l.length):l.drop j=l.getD j 0::l.drop (j+1):=by
 rw[LO h,La,Lc h];rfl
theorem OK{k B0 M:Nat}(hk:k=162∨k=160∨k=183){I:(Nat->Prop)->List (Nat×Nat)->World->Prop}(G:Give k B0 M I)(hM:M<=4611686018427387904)(X:Nat->Prop)(acc:List (Nat×Nat))(n:Nat)(w:World)
  (ao:OA) (b off m cap:Nat) (l:List Nat) (hI:I X acc w) (hX : ∀x,X x->x<w.heap.size) (hl:acc.length+100*(m+1)+1000<M) (r:Rd w ao b off m l) (hb:0<m->b<B0) (hc:QT 0 l n) (hn:n<=2^40) :
  Calls prog 159 #[.int .u64 (n:Int),.slice ao m cap,gv k B0] w fun e w'=>e = .returned (.tuple #[])∧I X (acc++rst 0 n l) w'∧Below B0 w w' ∧ ∀x,X x->w'.heap[x]? = w.heap[x]? := by
 have HS:Hid (I X acc w∧(∀x,X x->x<w.heap.size)∧acc.length+100*(m+1)+1000<M∧Rd w ao b off m l∧(0<m->b<B0)∧QT 0 l n∧n<=2^40):=⟨hI,hX,hl,r,hb,hc,hn⟩;have HM:Hid (M<=4611686018427387904):=hM;clear hI hX hl r hb hc hn hM
 go_enter func159,ntmps159;go_wp2
 go_loopg [6,8,11] m (fun g nx i8 ix wr => ∃(j next:Nat) (acc':List (Nat×Nat)),j<=m∧g=m - j∧ix = .int .i64 (j:Int)∧nx = .int .u64 (next:Int)∧I X acc' wr∧acc'++rst next n (l.drop j)=acc++rst 0 n l∧QT next (l.drop j) n∧Below B0 w wr∧(∀x,X x->wr.heap[x]? = w.heap[x]?)∧acc'.length<=acc.length+80*j)
 case atStart=>go_light;exact⟨0,0,acc,Ll _,rfl,rfl,rfl,HS.out.1,rfl,HS.out.2.2.2.2.2.1,Lb _ _,fun _ _=>rfl,Ld _⟩
 case round =>
  obtain⟨j,next,acc',hj,rfl,rfl,rfl,xF,xA,xD,xB,xH,xE⟩:=hrel;obtain⟨s1,s2,s3,s4,s5,s6,s7⟩:=HS.out;have xN:=HM.out;have xP:(0:Int)<=(j:Int):=Lf _;have xQ:(j:Int)<=4611686018427387904:=by omega
  clear xN
  by_cases hlt:j<m
  ·have xK:(j:Int)<(m:Int):=by omega
   have r':=s4.at xB s5;obtain rfl:=r'.addr (by omega)
   have cj:=r'.cell j hlt;have hd:=Qjd l j (by have:=s4.len;omega)
   obtain⟨x,hx⟩:=Ze (l.getD j 0);rw[hx] at cj hd;rw[hd] at xA xD;obtain⟨xL,xC⟩:=xD;have xO:=YW xC;have HE:=QbK hk G X acc' next x wr xF (fun y hy=>L5 (s2 y hy) xB.size) (by omega) xL (by omega)
   have ex:IntKind.u64.wrap ((x:Int)+1)=(x:Int)+1:=by rw[IntKind.wrap_u64];omega
   have HX:Hid (acc'++cov next x++rst (x+1) n (l.drop (j+1))=acc++rst 0 n l∧QT (x+1) (l.drop (j+1)) n∧Below B0 w wr∧(∀y,X y->wr.heap[y]? = w.heap[y]?)∧(acc'++cov next x).length<=acc.length+80*(j+1)∧j+1<=m):=by
    refine⟨by rw[LH];exact xA,xC,xB,xH,?_,hlt⟩
    have:=OH next x xL (by omega)
    simp;omega
   clear xA xC xB xH xE hlt r' hd hx xL xO s1 s2 s3 s4 s5 s6 s7 xF hj
   go_wp2_with (go_at_call 161;with_reducible refine HE.mono ?_;rintro e w1 ⟨rfl,xG,xI,xJ⟩)
   go_roundg (m - (j+1))
   case rel=>go_light;obtain⟨x1,x2,x3,x4,x5,x6⟩:=HX.out;refine⟨j+1,x+1,_,x6,rfl,by go_num,by go_num,xG,x1,x2,x3.trans xI,fun y hy=>(xJ y hy).trans (x4 y hy),x5⟩
   case measure=>go_light;have:=HX.out.2.2.2.2.2;omega
  ·obtain rfl:j=m:=by omega
   have xK : ¬(j:Int)<(j:Int):=by omega
   have xM:l.drop j=[]:=List.drop_eq_nil_iff.2 (by have:=s4.len;omega)
   rw[xM] at xA xD;have HE:=QbK hk G X acc' next n wr xF (fun y hy=>L5 (s2 y hy) xB.size) (by omega) xD s7
   have HX:Hid (acc'++cov next n=acc++rst 0 n l∧Below B0 w wr∧(∀y,X y->wr.heap[y]? = w.heap[y]?)):=⟨xA,xB,xH⟩;clear xA xB xH xE hlt xM s1 s2 s3 s4 s5 s6 s7 xF hj xD
   go_wp2_with (go_at_call 161;with_reducible refine HE.mono ?_;rintro e w1 ⟨rfl,xG,xI,xJ⟩)
   go_end0
   obtain⟨x1,x2,x3⟩:=HX.out;rw[x1] at xG;exact⟨rfl,xG,x2.trans xI,fun y hy=>(xJ y hy).trans (x3 y hy)⟩
theorem Ql4(n:Nat)(w:World)(ao:OA)(b off m cap:Nat)(l:List Nat)(r:Rd w ao b off m l)(hm:m<=5000)(he:QR n l=0) :
  Calls prog 109 #[.int .u64 (n:Int),.slice ao m cap] w fun x w' => ∃v,x = .returned (.tuple #[v,.int .i64 0])∧Qx w' w.heap.size v (zl (rst 0 n l))∧Zb w w':=by
 have HC:=QV n w ao b off m cap l r (by unfold maxLen;omega)
 obtain⟨g1,g2,g3,g4⟩:=QJ he;rw[he] at HC;have HE : ∀w1,Zb w w1->_:=fun w1 hb1=>OK (.inr (.inl rfl)) (QhP w1.heap.size) (by decide) (fun _=>False) [] n (w1.alloc (.cells #[.slice none 0 0] 77)) ao b off m cap l (Qjx w1) (fun _ h=>h.elim) (by simp;omega) ((r.below hb1).below ((Lb _ w1).alloc (Ld _) _)) (fun h=>L5 (r.lt h) hb1.size) g4 g1
 clear he r hm g1 g2 g3 g4
 go_enter func109,ntmps109
 go_upto_region 6 with (first
  | (go_at_call 158;with_reducible refine HC.mono ?_;rintro x w1 ⟨rfl,hb⟩;replace HE:=HE w1 hb)
  | (go_at_call 159;with_reducible refine HE.mono ?_;rintro x w2 ⟨rfl,hI,xA,_⟩))
 obtain⟨⟨v,h1,h2,_⟩,_⟩:=hI;have c0:=cell_of_one h1;obtain⟨ao,m,c,rfl⟩:=Qj h2;have HF:Hid (Qx w2 w.heap.size (.slice ao m c) (zl (rst 0 n l))∧Zb w w2):=⟨by
  have:=h2.mono (base':=w.heap.size) (by have:=hb.size;omega)
  simpa using this,hb.trans ((((Lb _ w1).alloc (Ld _) _).trans xA).mono hb.size)⟩
 clear h1 h2 xA HE hb;go_wp2
 go_ret2
 exact⟨_,rfl,HF.out.1,HF.out.2⟩
theorem Qnq(w:World):IC w.heap.size (fun _=>False) [] (w.alloc (.cells #[.int .u64 0] 28)):=⟨JJ _ _,fun h=>h⟩
theorem QhG(n e:Nat)(w:World)(ao:OA)(b off m cap:Nat)(l:List Nat)(r:Rd w ao b off m l)(hm:m<=maxLen)(he:QR n l=e)(h0:e≠0) :
  Calls prog 166 #[.int .u64 (n:Int),.slice ao m cap] w fun x w'=>x = .returned (.tuple #[.int .u64 0,.int .i64 (e:Int)])∧Zb w w':=by
 have HC:=QV n w ao b off m cap l r hm;rw[he] at HC;have xA : ¬(e:Int)=0:=by omega
 clear he r hm
 go_enter func166,ntmps166
 go_wp2_with (go_at_call 158;with_reducible refine HC.mono ?_;rintro x w1 ⟨rfl,hb⟩)
 go_ret2
 exact⟨rfl,hb⟩
theorem QeI(n:Nat)(w:World)(ao:OA)(b off m cap:Nat)(l:List Nat)(r:Rd w ao b off m l)(hm:m<=17592186044416)(he:QR n l=0) :
  Calls prog 166 #[.int .u64 (n:Int),.slice ao m cap] w fun x w'=>x = .returned (.tuple #[.int .u64 ((rst 0 n l).length:Nat),.int .i64 0])∧Zb w w':=by
 have HC:=QV n w ao b off m cap l r (by unfold maxLen;omega)
 obtain⟨g1,g2,g3,g4⟩:=QJ he;rw[he] at HC;have HE : ∀w1,Zb w w1->_:=fun w1 hb1=>OK (.inr (.inr rfl)) (QfT w1.heap.size) (by decide) (fun _=>False) [] n (w1.alloc (.cells #[.int .u64 0] 28)) ao b off m cap l (Qnq w1) (fun _ h=>h.elim) (by simp;omega) ((r.below hb1).below ((Lb _ w1).alloc (Ld _) _)) (fun h=>L5 (r.lt h) hb1.size) g4 g1
 clear he r hm g1 g2 g3 g4
 go_enter func166,ntmps166
 go_upto_region 6 with (first
  | (go_at_call 158;with_reducible refine HC.mono ?_;rintro x w1 ⟨rfl,hb⟩;replace HE:=HE w1 hb)
  | (go_at_call 159;with_reducible refine HE.mono ?_;rintro x w2 ⟨rfl,hI,xA,_⟩))
 have h1:=hI.at0;rw[Ie] at h1;have c0:=cell_of_one h1;have HF:Hid (Zb w w2):=hb.trans ((((Lb _ w1).alloc (Ld _) _).trans xA).mono hb.size);clear h1 hI xA HE hb;go_wp2
 go_ret2
 exact⟨rfl,HF.out⟩
theorem Ua(n:Nat)(w:World)(ao:OA)(b off m cap:Nat)(l:List Nat)(r:Rd w ao b off m l)(hm:m<=17592186044416) :
  Calls prog 166 #[.int .u64 (n:Int),.slice ao m cap] w fun x w'=>x = .returned (.tuple #[.int .u64 ((rstS n l).length:Nat),.int .i64 (QR n l:Nat)])∧Zb w w':=by
 by_cases h:QR n l=0
 ·rw[rstS,Lm h,h];exact QeI n w ao b off m cap l r hm h
 ·rw[rstS,Le h];exact QhG n _ w ao b off m cap l r (by unfold maxLen;omega) rfl h
structure RdB(w:World)(ao:OA)(g n:Nat)(l:List (Int×Nat)):Prop where
 len:l.length=n
 addr:0<n->ao=some ⟨g,0,none⟩
 cell : ∀j,j<n->w.cell? ⟨g,j*2,none⟩=some (.int .i64 (l.getD j (0,0)).1)∧w.cell? ⟨g,j*2+1,none⟩=some (.int .u64 ((l.getD j (0,0)).2:Nat))
theorem RdB.below{w w':World}{ao:OA}{g n:Nat}{l:List (Int×Nat)}(r:RdB w ao g n l)(h:Zb w w'):RdB w' ao g n l :=
 ⟨r.len,r.addr,fun j hj=>⟨(h.cell (p:=⟨g,j*2,none⟩) (Lh w _ (r.cell j hj).1)).trans (r.cell j hj).1,(h.cell (p:=⟨g,j*2+1,none⟩) (Lh w _ (r.cell j hj).2)).trans (r.cell j hj).2⟩⟩
theorem Y4{w:World}{base:Nat}{v:Value}{l:List (Int×Nat)}(h:Qx w base v l) : ∃ao g n cap,v = .slice ao n cap∧RdB w ao g n l∧n<=maxLen:=by
 have h0:=h;obtain⟨h1,h2⟩:=h
 rcases h2 with ⟨rfl,h2⟩|⟨g,cap,cur,rfl,hg,hh,hc1,hc2,hc3,hc4⟩
 ·exact⟨none,0,0,0,rfl,⟨h2,fun h=>absurd h (by omega),fun j hj=>absurd hj (by omega)⟩,Ll _⟩
 ·refine⟨some ⟨g,0,none⟩,g,l.length,cap,rfl,⟨rfl,fun _=>rfl,fun j hj => ?_⟩,by omega⟩
  have xB:=h0.cells (g:=g) rfl;obtain⟨⟨a,b⟩,hq⟩ : ∃q,l[j]=q:=⟨_,rfl⟩;have xA:l[j]? = some (a,b):=by rw[Lc hj,hq]
  obtain⟨e1,e2⟩:=QfD l j a b xA;have f1:=xB _ _ e1;have f2:=xB _ _ e2;rw[Addr.add_mid,Lr,Nb] at f1 f2;rw[La,xA];exact⟨f1,f2⟩
theorem QlO(w:World)(B:Nat)(cs:Array Value)(l:List (Int×Nat))(hcs:cs.toList=cB l)(hB:B<=w.heap.size)(hl:l.length<=1000) :
  Qx (w.alloc (.cells cs 83)) B (.slice (some ⟨w.heap.size,0,none⟩) l.length l.length) l:=by
 refine⟨Qw l,.inr ⟨w.heap.size,l.length,cs,rfl,hB,JJ _ _,Ld _,by unfold maxLen;omega,?_,?_⟩⟩
 ·rw[<-Array.length_toList,hcs,Qw]
 ·rw[hcs,<-Qw,LY]
theorem Qhw{w w':World}{o:Obj}(h:Below (w.alloc o).heap.size (w.alloc o) w'):Zb w w' :=
 ((Lb _ w).alloc (Ld _) o).trans (h.mono (by simp))
abbrev bv(h k:Nat):Value := .agg #[.int .i64 (h:Int),.int .u64 (k:Int)]
def Row(q:Nat):Nat->List (Nat×Nat)->Prop
 | p,[]=>p=q
 | p,b::L=>p=b.2*pw b.1∧b.1<=40∧b.2<pw (40 - b.1)∧Row q ((b.2+1)*pw b.1) L
theorem Qk5{h k:Nat}(hb:(k+1)*pw h<=2^40):h<=40∧k<pw (40 - h):=by
 have h1:pw h<=(k+1)*pw h:=Nat.le_mul_of_pos_left _ (by omega)
 have hh:h<=40:=pw40 (by omega)
 refine⟨hh,?_⟩
 have e:(2:Nat)^40=pw (40 - h)*pw h:=by rw[<-Qcj,show 40 - h+h=40 by omega];rfl
 rw[e] at hb;exact L5 (NR k) (Nat.le_of_mul_le_mul_right hb (QF h))
theorem Qmo{lo hi:Nat}(hhi:hi<=2^40) : ∀ {L:List (Nat×Nat)} {p:Nat},lo<=p->Til (Rg lo hi) hi p L->Row hi p L:=by
 intro L
 induction L with
 | nil =>
  intro p h1 h2
  show p=hi
  have:=h2.1
  by_cases he:p=hi
  ·exact he
  ·exact absurd ⟨h1,by omega⟩ (h2.2 p (Ld _) (by omega))
 | cons b L ih =>
  intro p h1 h2;obtain⟨a1,a2,a3,a4,a5,a6⟩:=h2;have xA:=YR b.1 b.2;have hm:=Qk5 (Lz a2 hhi);refine⟨?_,hm.1,hm.2,ih (by omega) a6⟩
  by_cases he:p=b.2*pw b.1
  ·exact he
  ·exact absurd ⟨h1,by omega⟩ (a3 p (Ld _) (by omega))
theorem OI(lo hi:Nat)(h:lo<=hi)(hhi:hi<=2^40):Row hi lo (cov lo hi):=Qmo hhi (Ld _) (J0 lo hi h hhi)
theorem Jt{A:Nat->Prop}{q:Nat} : ∀ {L:List (Nat×Nat)} {p:Nat},Til A q p L -> ∀b∈L,¬All A (b.1+1) (b.2 / 2)∧(b.2+1)*pw b.1<=q:=by
 intro L
 induction L with
 | nil=>intro p _ b hb;cases hb
 | cons c L ih =>
  intro p h b hb
  rcases List.mem_cons.1 hb with rfl|hb
  ·exact⟨h.2.2.2.2.1,h.2.1⟩
  ·exact ih h.2.2.2.2.2 b hb
theorem Qa5{α:Type}(d:α)(l:List α)(j:Nat)(h:j<l.length):l.drop j=l.getD j d::l.drop (j+1):=by
 rw[LO h,La,Lc h];rfl
theorem Uz(L:List (Nat×Nat))(j:Nat):(zl L).getD j (0,0)=(((L.getD j (0,0)).1:Int),(L.getD j (0,0)).2):=by
 by_cases h:j<L.length
 ·simp[zl,List.getD_eq_getElem?_getD,List.getElem?_eq_getElem h]
 ·simp[zl,List.getD_eq_getElem?_getD,List.getElem?_eq_none (Nat.le_of_not_lt h)]
end Cv
namespace Cv
open Pl
def tin(lo hi:Nat):Nat->Nat->List (Nat×Nat)
 | 0,K=>if lo<=K*pw 0∧(K+1)*pw 0<=hi then [(0,K)] else []
 | H+1,K=>if lo<=K*pw (H+1)∧(K+1)*pw (H+1)<=hi then [(H+1,K)] else if (K+1)*pw (H+1)<=lo∨hi<=K*pw (H+1) then [] else tin lo hi H (2*K)++tin lo hi H (2*K+1)
def inb(H K i:Nat):Bool:=decide (K*pw H<=i) && decide (i<(K+1)*pw H)
def tno:Nat->Nat->List Nat->List (Nat×Nat)
 | 0,K,S=>if (S.filter (inb 0 K)).length=0 then [(0,K)] else []
 | H+1,K,S=>if (S.filter (inb (H+1) K)).length=0 then [(H+1,K)] else tno H (2*K) (S.filter (inb (H+1) K))++tno H (2*K+1) (S.filter (inb (H+1) K))
theorem QL{H K i:Nat} : inb H K i=true↔K*pw H<=i∧i<(K+1)*pw H:=by simp[inb]
theorem YY(H K:Nat):(2*K)*pw H=K*pw (H+1):=(Yc K H).symm
theorem U6(H K:Nat):(2*K+1)*pw H=K*pw (H+1)+pw H:=by rw[LR,LX,YY]
theorem YX(H K:Nat):(2*K+1+1)*pw H=(K+1)*pw (H+1):=by rw[show 2*K+1+1=2*(K+1) by omega,YY]
theorem OE(H K:Nat):(K+1)*pw (H+1)=K*pw (H+1)+pw H+pw H:=by rw[LR,LX,QM];omega
theorem Qbo{A:Nat->Prop}{H K:Nat}(ha:All A H K)(hp : ¬All A (H+1) (K / 2)):Til A ((K+1)*pw H) (K*pw H) [(H,K)] :=
 ⟨Ld _,Ld _,fun i h1 h2=>by dsimp only at h2;omega,ha,hp,Ld _,fun i h1 h2=>by dsimp only at h1;omega⟩
theorem Qmq(lo hi:Nat) : ∀H K,¬All (Rg lo hi) (H+1) (K / 2)->Til (Rg lo hi) ((K+1)*pw H) (K*pw H) (tin lo hi H K):=by
 intro H
 induction H with
 | zero =>
  intro K hp;rw[tin];have e0:pw 0=1:=rfl
  split
  ·rename_i h
   exact Qbo (fun i h1 h2=>⟨by omega,by omega⟩) hp
  ·rename_i h
   refine⟨by rw[e0];omega,fun i h1 h2 hr=>h ?_⟩
   rw[e0] at *;have xB:=hr.1;have xC:=hr.2;omega
 | succ H ih =>
  intro K hp;rw[tin];have hb:=OE H K;have xD:=QF H
  split
  ·rename_i h
   exact Qbo (fun i h1 h2=>⟨by omega,by omega⟩) hp
  ·rename_i h
   split
   ·rename_i h'
    exact⟨by omega,fun i h1 h2 hr=>by have xB:=hr.1;have xC:=hr.2;omega⟩
   ·rename_i h'
    have xA : ¬All (Rg lo hi) (H+1) K:=fun hall=>h ⟨(hall _ (Ld _) (by omega)).1,by
     have:=(hall ((K+1)*pw (H+1) - 1) (by omega) (by omega)).2;omega⟩
    have t1:=ih (2*K) (by rw[show 2*K / 2=K by omega];exact xA)
    have t2:=ih (2*K+1) (by rw[show(2*K+1) / 2=K by omega];exact xA)
    rw[YX] at t2;rw[YY] at t1;exact Qad t2 t1
theorem Qmr(A:Nat->Prop) : ∀H K (S:List Nat),(∀i,K*pw H<=i->i<(K+1)*pw H->(A i↔i ∉ S)) -> ¬All A (H+1) (K / 2)->Til A ((K+1)*pw H) (K*pw H) (tno H K S):=by
 intro H
 induction H with
 | zero =>
  intro K S hA hp;rw[tno];have e0:pw 0=1:=rfl
  split
  ·rename_i h
   refine Qbo (fun i h1 h2=>(hA i h1 h2).2 (fun hi => ?_)) hp
   have hm:i∈S.filter (inb 0 K):=List.mem_filter.2 ⟨hi,QL.2 ⟨h1,h2⟩⟩;rw[List.length_eq_zero_iff.1 h] at hm
   cases hm
  ·rename_i h
   refine⟨by rw[e0];omega,fun i h1 h2 hr=>h ?_⟩
   cases hm:S.filter (inb 0 K) with
   | nil=>rfl
   | cons s M =>
    have hs:s∈S.filter (inb 0 K):=by rw[hm];exact Nq
    obtain⟨g1,g2⟩:=List.mem_filter.1 hs;obtain⟨g3,g4⟩:=QL.1 g2;rw[e0] at *;obtain rfl:i=s:=by omega
    exact absurd g1 ((hA i h1 h2).1 hr)
 | succ H ih =>
  intro K S hA hp;rw[tno];have hb:=OE H K;have xB:=QF H
  split
  ·rename_i h
   refine Qbo (fun i h1 h2=>(hA i h1 h2).2 (fun hi => ?_)) hp
   have hm:i∈S.filter (inb (H+1) K):=List.mem_filter.2 ⟨hi,QL.2 ⟨h1,h2⟩⟩;rw[List.length_eq_zero_iff.1 h] at hm
   cases hm
  ·rename_i h
   have xA : ¬All A (H+1) K:=fun hall=>h (by
    cases hm:S.filter (inb (H+1) K) with
    | nil=>rfl
    | cons s M =>
     have hs:s∈S.filter (inb (H+1) K):=by rw[hm];exact Nq
     obtain⟨g1,g2⟩:=List.mem_filter.1 hs;obtain⟨g3,g4⟩:=QL.1 g2;exact absurd g1 ((hA s g3 g4).1 (hall s g3 g4)))
   have hM : ∀i,K*pw (H+1)<=i->i<(K+1)*pw (H+1)->(A i↔i ∉ S.filter (inb (H+1) K)):=fun i h1 h2=>by
    rw[hA i h1 h2,List.mem_filter,QL];exact⟨fun h g=>h g.1,fun h g=>h ⟨g,h1,h2⟩⟩
   have e1:=YY H K;have e2:=U6 H K;have e3:=YX H K;have t1:=ih (2*K) (S.filter (inb (H+1) K)) (fun i h1 h2=>hM i (by omega) (by omega)) (by rw[show 2*K / 2=K by omega];exact xA)
   have t2:=ih (2*K+1) (S.filter (inb (H+1) K)) (fun i h1 h2=>hM i (by omega) (by omega)) (by rw[show(2*K+1) / 2=K by omega];exact xA)
   rw[YX] at t2;rw[YY] at t1;exact Qad t2 t1
theorem Qnx{A:Nat->Prop}{n:Nat}(t:Nat->Nat->List (Nat×Nat))(ht : ∀h k,(k+1)*pw h<=n -> ¬All A (h+1) (k / 2)->Til A ((k+1)*pw h) (k*pw h) (t h k))(hn : ¬A n) :
  ∀h x,(∃c,x=c*pw h)->n - x<pw h->x<=n->Til A n x ((dnL h x n).flatMap (fun b=>t b.1 b.2)):=by
 intro h
 induction h with
 | zero =>
  intro x _ h2 h3;rw[Ui] at h2;exact⟨h3,fun i h5 h6=>by omega⟩
 | succ h ih =>
  intro x h1 h2 h3;obtain⟨c,hc⟩:=h1;have hp:=QF h;have xA:=QM h;rw[Yc] at hc;rw[dnL]
  split
  ·rename_i hfit
   have hk:x / pw h=2*c:=by rw[hc];exact NF _ hp
   have e1:(2*c+1)*pw h=x+pw h:=by rw[LR,LX,<-hc]
   have e2:2*c / 2=c:=by omega
   have e3:c*pw (h+1)=x:=by rw[Yc];exact hc.symm
   rw[hk,NN];have t1:=ht h (2*c) (by omega) (by rw[e2];exact fun hall=>hn (hall n (by omega) (by rw[LR,LX,e3];omega)))
   have t2:=ih (x+pw h) ⟨2*c+1,e1.symm⟩ (by omega) (by omega)
   rw[<-e1] at t2;rw[<-hc] at t1;rw[<-e1];exact Qad t2 t1
  ·exact ih x ⟨2*c,hc⟩ (by omega) h3
theorem mt_all {A:Nat->Prop} {n:Nat} (t:Nat->Nat->List (Nat×Nat)) (ht : ∀h k,(k+1)*pw h<=n -> ¬All A (h+1) (k / 2)->Til A ((k+1)*pw h) (k*pw h) (t h k)) (hn : ¬A n) (h40:n<=2^40) :
    Til A n 0 ((dnL 41 0 n).flatMap (fun b=>t b.1 b.2)) :=
  Qnx t ht hn 41 0 ⟨0, by simp⟩ (by have : pw 41 = 2 ^ 41:=rfl
                                    omega) (Ll _)
theorem Qid(lo hi n:Nat)(h1:lo<=hi)(h2:hi<=n)(h3:n<=2^40):cov lo hi=(dnL 41 0 n).flatMap (fun b=>tin lo hi b.1 b.2):=by
 have t1:=J0 lo hi h1 (by omega)
 have t2:Til (Rg lo hi) n 0 (cov lo hi):=Qei (Qmp t1 h2 (fun i i1 i2 hr=>by have:=hr.2;omega)) (Ll _) (fun i i1 i2 hr=>by have:=hr.1;omega)
 exact Qhc t2 (mt_all (tin lo hi) (fun h k _ hp=>Qmq lo hi h k hp) (fun hr=>by have:=hr.2;omega) h3)
theorem QlQ(h k:Nat):k / 2*pw (h+1)<=k*pw h∧(k+1)*pw h<=(k / 2+1)*pw (h+1):=by
 rw[Yc,Yc];exact⟨LE _ (by omega),LE _ (by omega)⟩
theorem Qhd{A:Nat->Prop}{lo hi:Nat}(hA : ∀j,lo<=j->j<hi->A j)(hl:lo=0 ∨ ¬A (lo - 1))(hh : ¬A hi) : ∀ {L:List (Nat×Nat)} {p:Nat},lo<=p->Til (Rg lo hi) hi p L->Til A hi p L:=by
 intro L
 induction L with
 | nil=>intro p h1 h2;exact⟨h2.1,fun i i1 i2=>absurd ⟨by omega,i2⟩ (h2.2 i i1 i2)⟩
 | cons b L ih =>
  intro p h1 h2;obtain⟨a1,a2,a3,a4,a5,a6⟩:=h2;have xA:=YR b.1 b.2;refine⟨a1,a2,fun i i1 i2=>absurd ⟨by omega,by omega⟩ (a3 i i1 i2),fun i i1 i2=>hA i (by omega) (by omega),fun hall=>a5 (fun i i1 i2 => ?_),ih (by omega) a6⟩
  obtain⟨p1,p2⟩:=QlQ b.1 b.2;refine⟨?_,?_⟩
  ·by_cases hlo:lo<=i
   ·exact hlo
   ·rcases hl with hl|hl
    ·omega
    ·exact absurd (hall (lo - 1) (by omega) (by omega)) hl
  ·by_cases hhi:i<hi
   ·exact hhi
   ·exact absurd (hall hi (by omega) (by omega)) hh
theorem Yp : ∀ {S:List Nat} {x n:Nat},QT x S n -> ∀s∈S,x<=s∧s<n:=by
 intro S
 induction S with
 | nil=>intro x n _ s hs;cases hs
 | cons i S ih =>
  intro x n h s hs;have h1:=h.1;have h2:=YW h.2
  rcases List.mem_cons.1 hs with rfl|hs
  ·exact⟨h1,by omega⟩
  ·have:=ih h.2 s hs;omega
theorem Ql8{A:Nat->Prop}{n:Nat}(hn:n<=2^40) : ∀(S:List Nat) (x:Nat),(∀i,x<=i->(A i↔i<n∧i ∉ S))->(x=0 ∨ ¬A (x - 1))->QT x S n->Til A n x (rst x n S):=by
  intro S
  induction S with
  | nil =>
    intro x hA hx hc;have xB:x<=n:=hc;exact Qhd (fun j j1 j2=>(hA j j1).2 ⟨j2,by simp⟩) hx (fun h=>by have:=((hA n xB).1 h).1;omega) (Ld _) (J0 x n xB hn)
  | cons i S ih =>
    intro x hA hx hc;obtain⟨c1,c2⟩:=hc;have xC:=YW c2;have xA : ¬A i:=fun h=>((hA i c1).1 h).2 Nq
    have t1:Til A i x (cov x i):=Qhd (fun j j1 j2=>(hA j j1).2 ⟨by omega,fun hj=>by
      rcases List.mem_cons.1 hj with rfl|hj
      · omega
      · have:=Yp c2 j hj;omega⟩) hx xA (Ld _) (J0 x i c1 (by omega))
    have t2:Til A n (i+1) (rst (i+1) n S):=ih (i+1) (fun j j1=>by
      rw[hA j (by omega)]
      refine⟨fun h=>⟨h.1,fun hj=>h.2 (L4 _ hj)⟩,fun h=>⟨h.1,fun hj => ?_⟩⟩
      rcases List.mem_cons.1 hj with rfl|hj
      · omega
      · exact h.2 hj) (.inr (by rw[Nv];exact xA)) c2
    exact Qad (Qei t2 (Nat.le_succ i) (fun j j1 j2=>by obtain rfl : j = i:=by omega
                                                       exact xA)) t1
abbrev But(n:Nat)(S:List Nat):Nat->Prop:=fun i=>i<n∧i ∉ S
theorem YP(n:Nat)(S:List Nat)(hn:n<=2^40)(hc:QT 0 S n):Til (But n S) n 0 (rst 0 n S):=Ql8 hn S 0 (fun _ _=>Iff.rfl) (.inl rfl) hc
theorem JS(n:Nat)(S:List Nat)(hn:n<=2^40)(hc:QT 0 S n):rst 0 n S=(dnL 41 0 n).flatMap (fun b=>tno b.1 b.2 S) :=
 Qhc (YP n S hn hc) (mt_all (fun h k=>tno h k S) (fun h k hk hp=>Qmr _ h k S (fun i _ i2=>⟨fun h=>h.2,fun h=>⟨by omega,h⟩⟩) hp) (fun h=>by have:=h.1;omega) hn)
theorem O7(n:Nat)(hn:n<=2^40) : ∀(S:List Nat) (x:Nat),QT x S n->(rst x n S).length<=80*(S.length+1):=by
 intro S
 induction S with
 | nil=>intro x hc;exact OH x n hc hn
 | cons i S ih =>
  intro x hc;have h1:=OH x i hc.1 (by have:=YW hc.2;omega)
  have h2:=ih (i+1) hc.2;simp only[rst,List.length_append,List.length_cons];omega
theorem Qhe(lo hi:Nat) : ∀H K,(tin lo hi H K).length<=pw H:=by
 intro H
 induction H with
 | zero=>intro K;rw[tin];split <;> simp[pw]
 | succ H ih =>
  intro K;have:=QF H;rw[tin,QM]
  split
  ·simp;omega
  ·split
   ·simp
   ·have h1:=ih (2*K);have h2:=ih (2*K+1);simp;omega
theorem Qbp(H:Nat) : ∀K S,(tno H K S).length<=pw H:=by
 induction H with
 | zero=>intro K S;rw[tno];split <;> simp[pw]
 | succ H ih =>
  intro K S;have:=QF H;rw[tno,QM]
  split
  ·simp;omega
  ·have h1:=ih (2*K) (S.filter (inb (H+1) K));have h2:=ih (2*K+1) (S.filter (inb (H+1) K));simp;omega
theorem Qj1(H K:Nat) : ∀M:List Nat,(∀i∈M,inb (H+1) K i=true)->(M.filter (inb H (2*K))).length+(M.filter (inb H (2*K+1))).length=M.length:=by
 have e1:=YY H K;have e2:=U6 H K;have e3:=YX H K;intro M
 induction M with
 | nil=>intro _;rfl
 | cons i M ih =>
  intro h;have h1:=QL.1 (h i Nq);have h2:=ih (fun j hj=>h j (L4 _ hj))
  by_cases hm:i<(2*K+1)*pw H
  ·have a1:inb H (2*K) i=true:=QL.2 ⟨by omega,hm⟩
   have a2:inb H (2*K+1) i=false:=by
    cases hb:inb H (2*K+1) i with
    | false=>rfl
    | true=>have:=(QL.1 hb).1;omega
   rw[NE a1,Ng (by rw[a2];decide),Lt,Lt];omega
  ·have a1:inb H (2*K+1) i=true:=QL.2 ⟨by omega,by omega⟩
   have a2:inb H (2*K) i=false:=by
    cases hb:inb H (2*K) i with
    | false=>rfl
    | true=>have:=(QL.1 hb).2;omega
   rw[NE a1,Ng (by rw[a2];decide),Lt,Lt];omega
theorem QdB(S:List Nat)(H K:Nat) : ∀i∈S.filter (inb H K),inb H K i=true:=fun _ hi=>(List.mem_filter.1 hi).2
theorem QaG : ∀H K (S:List Nat),((S.filter (inb H K)).length=0->(tno H K S).length=1)∧((S.filter (inb H K)).length≠0->(tno H K S).length<=(S.filter (inb H K)).length*H):=by
 intro H
 induction H with
 | zero =>
  intro K S;refine⟨fun h=>by rw[tno,Lm h];rfl,fun h=>by rw[tno,Le h];simp⟩
 | succ H ih =>
  intro K S;refine⟨fun h=>by rw[tno,Lm h];rfl,fun h => ?_⟩
  rw[tno,Le h,Lg];have hp:=Qj1 H K (S.filter (inb (H+1) K)) (QdB S (H+1) K);obtain⟨l0,l1⟩:=ih (2*K) (S.filter (inb (H+1) K));obtain⟨r0,r1⟩:=ih (2*K+1) (S.filter (inb (H+1) K));generalize ((S.filter (inb (H+1) K)).filter (inb H (2*K))).length=a at *;generalize ((S.filter (inb (H+1) K)).filter (inb H (2*K+1))).length=b at *;generalize (tno H (2*K) (S.filter (inb (H+1) K))).length=x at *;generalize (tno H (2*K+1) (S.filter (inb (H+1) K))).length=y at *;generalize (S.filter (inb (H+1) K)).length=c at *;subst hp;rw[Nat.mul_add,Iw,LR]
  by_cases ha:a=0
  ·have:=l0 ha;have hb:b≠0:=by omega
   have:=r1 hb;subst ha;omega
  ·have:=l1 ha
   by_cases hb:b=0
   ·have:=r0 hb;subst hb;omega
   ·have:=r1 hb;omega
theorem Y9 : ∀ {S:List Nat} {a n:Nat} (_:QT a S n) (j:Nat),j<S.length->S.getD j 0<n∧a<=S.getD j 0 ∧ ∀t,t<j->S.getD t 0<S.getD j 0:=by
 intro S
 induction S with
 | nil=>intro a n _ j hj;simp at hj
 | cons s r ih =>
  intro a n h j hj;have xA:=YW h.2
  cases j with
  | zero=>exact⟨by simp;omega,by simpa using h.1,fun t ht=>absurd ht (Nu t)⟩
  | succ j =>
   obtain⟨g1,g2,g3⟩:=ih h.2 j (by simp at hj;omega)
   have h1:=h.1;refine⟨by simpa using g1,by simp;simp at g2;omega,fun t ht => ?_⟩
   cases t with
   | zero=>simp;simp at g2;omega
   | succ t=>have:=g3 t (by omega);simpa using this
theorem QcO{S:List Nat}{n:Nat}(h:QT 0 S n)(h0:S≠[])(hn:n<=2^40):QR n S=0:=by
 have hl:0<S.length:=List.length_pos_iff.2 h0;have hi:Inc S:=⟨hl,fun i hi=>(Y9 h (i+1) hi).2.2 i (by omega)⟩
 have xA:=(Y9 h (S.length - 1) (by omega)).1
 rw[QR,Le (by omega),Le (by rw[(QY S).2 hi];decide),Le (by omega)]
end Cv
section
open Pl (pw QM QF Ui)
open Cv (tno inb QL)
def bl(S:List Nat)(x:Nat):Nat:=(S.filter fun i=>decide (i<x)).length
theorem QcM(S:List Nat)(x:Nat):bl S x<=S.length:=NM _ _
abbrev Asc(S:List Nat):Prop:=S.Pairwise (· < ·)
theorem U3(x:Nat) : ∀ {S:List Nat},Asc S->S.filter (fun i=>decide (i<x))=S.take (bl S x)∧S.filter (fun i=>decide (x<=i))=S.drop (bl S x)
 | [],_=>⟨rfl,rfl⟩
 | a::S,h=>by
  obtain⟨h1,h2⟩:=List.pairwise_cons.1 h;obtain⟨i1,i2⟩:=U3 x h2
  by_cases ha:a<x
  ·have e:bl (a::S) x=bl S x+1:=by simp[bl,ha]
   have hn : ¬x<=a:=by omega
   rw[e,I5,List.drop_succ_cons,<-i1,<-i2]
   constructor
   ·rw[NE (by simpa using ha)]
   ·rw[Ng (by simpa using hn)]
  ·have hn : ∀i∈S,¬i<x:=fun i hi=>by have:=h1 i hi;omega
   have e1:S.filter (fun i=>decide (i<x))=[]:=List.filter_eq_nil_iff.2 (by simpa using hn)
   have e:bl (a::S) x=0:=by rw[bl,Ng (by simpa using ha),e1];rfl
   rw[e]
   constructor
   ·rw[Ng (by simpa using ha),e1];rfl
   ·refine List.filter_eq_self.2 fun i hi => ?_
    rcases List.mem_cons.1 hi with rfl|hi
    ·simpa using ha
    ·simpa using hn i hi
theorem QgW{S:List Nat}{x i:Nat}(h:Asc S)(hi:i∈S.take (bl S x)):i<x:=by
 rw[<-(U3 x h).1] at hi
 simpa using (List.mem_filter.1 hi).2
theorem QeV{S:List Nat}{x i:Nat}(h:Asc S)(hi:i∈S.drop (bl S x)):x<=i:=by
 rw[<-(U3 x h).2] at hi
 simpa using (List.mem_filter.1 hi).2
theorem OD{S:List Nat}(h:Asc S)(t:Nat):Asc (S.take t):=h.sublist (Is _ _)
theorem JC{S:List Nat}(h:Asc S)(t:Nat):Asc (S.drop t):=h.sublist (NU _ _)
theorem Qb6{S:List Nat}{t i:Nat}(hi:i∈S.take t):i∈S:=(Is _ _).subset hi
theorem Qb5{S:List Nat}{t i:Nat}(hi:i∈S.drop t):i∈S:=(NU _ _).subset hi
theorem Qaf(h k:Nat)(S:List Nat):tno h k (S.filter (inb h k))=tno h k S:=by
 cases h <;> simp only[tno,List.filter_filter,Bool.and_self]
theorem Qag(h k:Nat):tno h k []=[(h,k)]:=by cases h <;> rfl
abbrev In(h k:Nat)(S:List Nat):Prop := ∀i∈S,k*pw h<=i∧i<(k+1)*pw h
theorem QdL{h k:Nat}{S:List Nat}(hp:Asc S)(hS:In (h+1) k S):S.filter (inb h (2*k))=S.take (bl S ((2*k+1)*pw h))∧S.filter (inb h (2*k+1))=S.drop (bl S ((2*k+1)*pw h)):=by
 obtain⟨h1,h2⟩:=U3 ((2*k+1)*pw h) hp;rw[<-h1,<-h2];have e1:=Cv.YY h k;have e2:=Cv.YX h k
 constructor
 ·refine IL fun i hi => ?_
  have:=hS i hi;rw[IY,QL,decide_eq_true_iff];omega
 ·refine IL fun i hi => ?_
  have:=hS i hi;rw[IY,QL,decide_eq_true_iff];omega
theorem Qjy{h k:Nat}{S:List Nat}(hp:Asc S)(hS:In (h+1) k S):In h (2*k) (S.take (bl S ((2*k+1)*pw h))):=fun i hi=>by
 rw[<-(QdL hp hS).1] at hi;exact QL.1 (List.mem_filter.1 hi).2
theorem QgS{h k:Nat}{S:List Nat}(hp:Asc S)(hS:In (h+1) k S):In h (2*k+1) (S.drop (bl S ((2*k+1)*pw h))):=fun i hi=>by
 rw[<-(QdL hp hS).2] at hi;exact QL.1 (List.mem_filter.1 hi).2
theorem Qhf{h k:Nat}{S:List Nat}(hp:Asc S)(hS:In (h+1) k S)(h0:S≠[]):tno (h+1) k S=tno h (2*k) (S.take (bl S ((2*k+1)*pw h)))++tno h (2*k+1) (S.drop (bl S ((2*k+1)*pw h))):=by
 have e:S.filter (inb (h+1) k)=S:=List.filter_eq_self.2 fun i hi=>QL.2 (hS i hi)
 rw[tno,e,Le (by simpa [List.length_eq_zero_iff] using h0),<-Qaf h (2*k) S,<-Qaf h (2*k+1) S,(QdL hp hS).1,(QdL hp hS).2]
theorem QkF{k:Nat}{S:List Nat}(hS:In 0 k S)(h0:S≠[]):tno 0 k S=[]:=by
 have e:S.filter (inb 0 k)=S:=List.filter_eq_self.2 fun i hi=>QL.2 (hS i hi)
 rw[tno,e,Le (by simpa [List.length_eq_zero_iff] using h0)]
theorem Qnr{k i:Nat}{S:List Nat}(hS:In 0 k (i::S)):i=k:=by
 have:=hS i (Nq ..);rw[Ui] at this;omega
def vB(c:Nat):Nat->Nat->List Nat->LB->LB->BA
 | 0,_,S,X,D=>if S.length=0 then D.getD 0 ByteArray.empty else dg c (Qh (X.getD 0 ByteArray.empty))
 | h+1,k,S,X,D=>if S.length=0 then D.getD 0 ByteArray.empty else dg c (QH (vB c h (2*k) (S.take (bl S ((2*k+1)*pw h))) (X.take (bl S ((2*k+1)*pw h))) D) (vB c h (2*k+1) (S.drop (bl S ((2*k+1)*pw h))) (X.drop (bl S ((2*k+1)*pw h))) (D.drop (tno h (2*k) (S.take (bl S ((2*k+1)*pw h)))).length)))
theorem Qep(c h k:Nat)(X D:LB):vB c h k [] X D=D.getD 0 ByteArray.empty:=by cases h <;> simp[vB]
theorem Qeo(c k:Nat){S:List Nat}(X D:LB)(h0:S≠[]):vB c 0 k S X D=dg c (Qh (X.getD 0 ByteArray.empty)):=by
 rw[vB,Le (by simpa [List.length_eq_zero_iff] using h0)]
theorem Qgp(c h k:Nat){S:List Nat}(X D:LB)(h0:S≠[]){t:Nat}(ht:bl S ((2*k+1)*pw h)=t):vB c (h+1) k S X D=dg c (QH (vB c h (2*k) (S.take t) (X.take t) D) (vB c h (2*k+1) (S.drop t) (X.drop t) (D.drop (tno h (2*k) (S.take t)).length))):=by
 rw[vB,Le (by simpa [List.length_eq_zero_iff] using h0),ht]
theorem Qeq{c:Nat}(hc:c<=32) : ∀(h k:Nat) (S:List Nat) (X D:LB),(∀s∈D,s.size=c)->0<D.length∨S≠[]->(vB c h k S X D).size=c:=by
 intro h k S X D hD h0
 by_cases hS:S=[]
 ·subst hS;rw[Qep];exact hD _ (Qv (by rcases h0 with h0|h0;exact h0;exact absurd rfl h0))
 ·cases h with
  | zero=>rw[Qeo c k X D hS];exact Q6 hc _
  | succ h=>rw[Qgp c h k X D hS rfl];exact Q6 hc _
def Tl(c:Nat)(K:List ((Nat×Nat)×BA)):Nat->Nat->BA->Prop
 | 0,k,v=>((0,k),v)∈K
 | h+1,k,v=>((h+1,k),v)∈K∨((∀u,((h+1,k),u) ∉ K) ∧ ∃x y,Tl c K h (2*k) x∧Tl c K h (2*k+1) y∧v=dg c (QH x y))
theorem Tl.at{c:Nat}{K:List ((Nat×Nat)×BA)}{h k:Nat}{v:BA}(e:((h,k),v)∈K):Tl c K h k v:=by
 cases h with
 | zero=>exact e
 | succ h=>exact .inl e
theorem YD{α:Type}(d:α)(A B:List α)(j:Nat):(A++B).getD (A.length+j) d=B.getD j d:=by
 rw[La,LN (by omega),Io,La]
theorem Uj{α:Type}(d:α)(A B:List α){j:Nat}(h:j<A.length):(A++B).getD j d=A.getD j d:=by
 rw[La,LL h,La]
theorem Jk{α:Type}(d:α)(A:List α)(t j:Nat):(A.drop t).getD j d=A.getD (t+j) d:=by
 rw[La,Np,La]
theorem OO{α:Type}(d:α)(A:List α){t j:Nat}(h:j<t):(A.take t).getD j d=A.getD j d:=by
 rw[La,Nc,Lm h,La]
theorem Qos(c:Nat)(K:List ((Nat×Nat)×BA)) : ∀(h k:Nat) (S:List Nat) (X D:LB),Asc S->In h k S->(∀e∈K,0<e.1.1 -> ∀i∈S,¬(e.1.2*pw e.1.1<=i∧i<(e.1.2+1)*pw e.1.1))->(∀j,j<S.length->((0,S.getD j 0),dg c (Qh (X.getD j ByteArray.empty)))∈K)->(∀j,j<(tno h k S).length->((tno h k S).getD j (0,0),D.getD j ByteArray.empty)∈K)->Tl c K h k (vB c h k S X D):=by
 intro h
 induction h with
 | zero =>
  intro k S X D hp hS hK hX hD
  cases S with
  | nil=>rw[Qep];exact Tl.at (hD 0 (by rw[Qag];exact Nat.zero_lt_one))
  | cons i S =>
   obtain rfl:=Qnr hS;rw[Qeo c i X D (by simp)]
   exact hX 0 (by simp)
 | succ h ih =>
  intro k S X D hp hS hK hX hD
  by_cases h0:S=[]
  ·subst h0;rw[Qep];exact Tl.at (hD 0 (by rw[Qag];exact Nat.zero_lt_one))
  ·obtain⟨t,ht⟩:=Ze (bl S ((2*k+1)*pw h));have xA:t<=S.length:=by rw[<-ht];exact QcM _ _
   have l1:=Qjy hp hS;have l2:=QgS hp hS;have l3:=Qhf hp hS h0;rw[ht] at l1 l2 l3;rw[Qgp c h k X D h0 ht];refine .inr ⟨fun u hu => ?_,_,_,?_,?_,rfl⟩
   ·obtain⟨i,hi⟩:=List.exists_mem_of_ne_nil S h0;exact hK _ hu (Nat.succ_pos h) i hi (hS i hi)
   ·refine ih (2*k) _ _ D (OD hp _) l1 (fun e he h1 i hi=>hK e he h1 i (Qb6 hi)) (fun j hj => ?_) (fun j hj => ?_)
    ·rw[Lq] at hj;rw[OO _ _ (by omega),OO _ _ (by omega)]
     exact hX j (by omega)
    ·have:=hD j (by rw[l3,Lg];omega)
     rwa [l3,Uj _ _ _ hj] at this
   ·refine ih (2*k+1) _ _ _ (JC hp _) l2 (fun e he h1 i hi=>hK e he h1 i (Qb5 hi)) (fun j hj => ?_) (fun j hj => ?_)
    ·rw[Lv] at hj;rw[Jk,Jk];exact hX (t+j) (by omega)
    ·have:=hD ((tno h (2*k) (S.take t)).length+j) (by rw[l3,Lg];omega)
     rwa [l3,YD,<-Jk] at this
def pB(c:Nat):List (Nat×Nat)->List Nat->LB->LB->LB
 | [],_,_,_=>[]
 | m::M,S,X,D=>vB c m.1 m.2 (S.take (bl S ((m.2+1)*pw m.1))) (X.take (bl S ((m.2+1)*pw m.1))) D::pB c M (S.drop (bl S ((m.2+1)*pw m.1))) (X.drop (bl S ((m.2+1)*pw m.1))) (D.drop (tno m.1 m.2 (S.take (bl S ((m.2+1)*pw m.1)))).length)
def fB:List (Nat×Nat)->List Nat->List (Nat×Nat)
 | [],_=>[]
 | m::M,S=>tno m.1 m.2 (S.take (bl S ((m.2+1)*pw m.1)))++fB M (S.drop (bl S ((m.2+1)*pw m.1)))
theorem QdT(c:Nat) : ∀(M:List (Nat×Nat)) (S:List Nat) (X D:LB),(pB c M S X D).length=M.length
 | [],_,_,_=>rfl
 | m::M,S,X,D=>by rw[pB,Lt,QdT,Lt]
theorem Qkl{q:Nat} : ∀ {M:List (Nat×Nat)} {p:Nat},Cv.Row q p M->p<=q
 | [],_,h=>Wp h
 | m::M,p,h=>by
  have:=Qkl h.2.2.2;have h1:=Cv.YR m.1 m.2;have h2:=h.1;omega
theorem O6{q:Nat} : ∀ {M:List (Nat×Nat)} {p:Nat},Cv.Row q p M -> ∀b∈M,p<=b.2*pw b.1∧(b.2+1)*pw b.1<=q
 | [],_,_,b,hb=>by cases hb
 | m::M,p,h,b,hb=>by
  rcases List.mem_cons.1 hb with rfl|hb
  ·exact⟨Wp h.1,Qkl h.2.2.2⟩
  ·have:=O6 h.2.2.2 b hb;have h1:=Cv.YR m.1 m.2;have h2:=h.1;exact⟨by omega,this.2⟩
abbrev Fr(p q:Nat)(S:List Nat):Prop := ∀i∈S,p<=i∧i<q
theorem Qjq{p q h k:Nat}{S:List Nat}(hp:Asc S)(hS:Fr p q S)(hk:p=k*pw h):In h k (S.take (bl S ((k+1)*pw h))):=fun i hi=>⟨by have:=(hS i (Qb6 hi)).1;omega,QgW hp hi⟩
theorem QdE{p q x:Nat}{S:List Nat}(hp:Asc S)(hS:Fr p q S):Fr x q (S.drop (bl S x)):=fun i hi=>⟨QeV hp hi,(hS i (Qb5 hi)).2⟩
theorem Qlm{f g:Nat×Nat->List (Nat×Nat)}{M:List (Nat×Nat)}(h : ∀b∈M,f b=g b):M.flatMap f=M.flatMap g:=by
 rw[List.flatMap_def,List.flatMap_def,Iy h]
theorem QdA{q:Nat} : ∀ {M:List (Nat×Nat)} {p:Nat} {S:List Nat},Cv.Row q p M->Asc S->Fr p q S->fB M S=M.flatMap fun b=>tno b.1 b.2 S
 | [],_,_,_,_,_=>rfl
 | m::M,p,S,h,hp,hS=>by
  rw[fB,NN,QdA h.2.2.2 (JC hp _) (QdE hp hS)];have e1:S.filter (inb m.1 m.2)=S.take (bl S ((m.2+1)*pw m.1)):=by
   rw[<-(U3 _ hp).1];refine IL fun i hi => ?_
   have:=hS i hi;have h1:=h.1;rw[IY,QL,decide_eq_true_iff];omega
  rw[<-e1,Qaf]
  congr 1
  refine Qlm fun b hb => ?_
  have xA:=O6 h.2.2.2 b hb;rw[<-Qaf b.1 b.2 S,<-Qaf b.1 b.2 (S.drop _)]
  congr 1
  rw[<-(U3 _ hp).2,List.filter_filter];refine IL fun i hi => ?_
  rw[IY,IS,QL,decide_eq_true_iff];omega
theorem QmP(c:Nat)(K:List ((Nat×Nat)×BA)){q:Nat} : ∀(M:List (Nat×Nat)) (p:Nat) (S:List Nat) (X D:LB),Cv.Row q p M->Asc S->Fr p q S->(∀e∈K,0<e.1.1 -> ∀i∈S,¬(e.1.2*pw e.1.1<=i∧i<(e.1.2+1)*pw e.1.1))->(∀j,j<S.length->((0,S.getD j 0),dg c (Qh (X.getD j ByteArray.empty)))∈K)->(∀j,j<(fB M S).length->((fB M S).getD j (0,0),D.getD j ByteArray.empty)∈K) -> ∀j,j<M.length->Tl c K (M.getD j (0,0)).1 (M.getD j (0,0)).2 ((pB c M S X D).getD j ByteArray.empty)
 | [],_,_,_,_,_,_,_,_,_,_,j,hj=>absurd hj (Nu j)
 | m::M,p,S,X,D,h,hp,hS,hK,hX,hD,j,hj=>by
  obtain⟨t,ht⟩:=Ze (bl S ((m.2+1)*pw m.1));have htl:t<=S.length:=by rw[<-ht];exact QcM _ _
  have l1:=Qjq hp hS h.1;have l2:Fr ((m.2+1)*pw m.1) q (S.drop (bl S ((m.2+1)*pw m.1))):=QdE hp hS;rw[ht] at l1 l2;rw[fB,ht] at hD;rw[pB,ht]
  cases j with
  | zero =>
   refine Qos c K m.1 m.2 _ _ D (OD hp _) l1 (fun e he h1 i hi=>hK e he h1 i (Qb6 hi)) (fun j hj => ?_) (fun j hj => ?_)
   ·rw[Lq] at hj;rw[OO _ _ (by omega),OO _ _ (by omega)]
    exact hX j (by omega)
   ·have:=hD j (by rw[Lg];omega)
    rwa [Uj _ _ _ hj] at this
  | succ j =>
   refine QmP c K M _ _ _ _ h.2.2.2 (JC hp _) l2 (fun e he h1 i hi=>hK e he h1 i (Qb5 hi)) (fun j hj => ?_) (fun j hj => ?_) j (by rw[Lt] at hj;omega)
   ·rw[Lv] at hj;rw[Jk,Jk];exact hX (t+j) (by omega)
   ·have:=hD ((tno m.1 m.2 (S.take t)).length+j) (by rw[Lg];omega)
    rwa [YD,<-Jk] at this
theorem Qg1{c:Nat}(hc:c<=32) : ∀(M:List (Nat×Nat)) (S:List Nat) (X D:LB),(∀s∈D,s.size=c)->(fB M S).length<=D.length -> ∀s∈pB c M S X D,s.size=c
 | [],_,_,_,_,_,s,hs=>by cases hs
 | m::M,S,X,D,hD,hl,s,hs=>by
  rw[fB,Lg] at hl;rw[pB] at hs
  rcases List.mem_cons.1 hs with rfl|hs
  ·refine Qeq hc _ _ _ _ _ hD ?_
   by_cases h0:S.take (bl S ((m.2+1)*pw m.1))=[]
   ·rw[h0,Qag] at hl;exact .inl (by rw[Nw] at hl;omega)
   ·exact .inr h0
  ·exact Qg1 hc M _ _ _ (fun s hs=>hD s ((NU _ _).subset hs)) (by rw[Lv];omega) s hs
theorem Y8 : ∀ {S:List Nat} {x n:Nat},Cv.QT x S n->Asc S
 | [],_,_,_=>List.Pairwise.nil
 | _::_,_,_,h=>List.pairwise_cons.2 ⟨fun j hj=>(Cv.Yp h.2 j hj).1,Y8 h.2⟩
end
end Go.Proofs.YtdocjikpcbmcgaaGreatDoor
