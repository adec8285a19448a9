/- Own work. -/
import Derived.Test.YtoblgjledefdbaaGreatDoorQm30
set_option maxRecDepth 100000
set_option maxHeartbeats 1000000
namespace Go.Proofs.YtoblgjledefdbaaGreatDoor
open Go.RowKit
attribute [local go_sem ↓] Go.wp_at_zero Go.wp_at_succ
open Go.Proofs.Tryz
namespace Cv
open Pl
structure Rd(w:World)(ao:OA)(b off n:Nat)(l:List Nat):Prop where
 len:l.length=n
 addr:0<n->ao=some ⟨b,off,none⟩
 cell : ∀j,j<n->w.cell? ⟨b,off+j,none⟩=some (.int .u64 (l.getD j 0:Nat))
theorem Rd.below{w w':World}{ao:OA}{b off n:Nat}{l:List Nat}(r:Rd w ao b off n l)(h:Below w.heap.size w w'):Rd w' ao b off n l :=
 ⟨r.len,r.addr,fun j hj=>(h.cell (p:=⟨b,off+j,none⟩) (Ln w _ (r.cell j hj))).trans (r.cell j hj)⟩
theorem Rd.lt{w:World}{ao:OA}{b off n:Nat}{l:List Nat}(r:Rd w ao b off n l)(h:0<n):b<w.heap.size:=Ln w ⟨b,off+0,none⟩ (r.cell 0 h)
theorem Rd.at{w w':World}{ao:OA}{b off n B:Nat}{l:List Nat}(r:Rd w ao b off n l)(h:Below B w w')(hb:0<n->b<B):Rd w' ao b off n l :=
 ⟨r.len,r.addr,fun j hj=>(LD (h.block b (hb (by omega)))).trans (r.cell j hj)⟩
def Inc(l:List Nat):Prop:=0<l.length ∧ ∀i,i+1<l.length->l.getD i 0<l.getD (i+1) 0
def incB(l:List Nat):Bool:=decide (0<l.length) && (List.range (l.length - 1)).all (fun i=>decide (l.getD i 0<l.getD (i+1) 0))
theorem UO(l:List Nat):incB l=true↔Inc l:=by
 unfold incB Inc;rw[Bool.and_eq_true,decide_eq_true_iff,List.all_eq_true]
 constructor
 ·rintro⟨h1,h2⟩;exact⟨h1,fun i hi=>by simpa using h2 i (List.mem_range.2 (by omega))⟩
 ·rintro⟨h1,h2⟩;exact⟨h1,fun i hi=>by have:=List.mem_range.1 hi;simpa using h2 i (by omega)⟩
def QI:Nat->List Nat->Nat->Prop
 | x,[],n=>x<=n
 | x,i::S,n=>x<=i∧QI (i+1) S n
theorem Ys : ∀ {S:List Nat} {x n:Nat},QI x S n->x<=n:=by
 intro S
 induction S with
 | nil=>intro x n h;exact h
 | cons i S ih=>intro x n h;have:=ih h.2;have:=h.1;omega
theorem Qeh : ∀(l:List Nat) (x n:Nat),(∀i,i+1<l.length->l.getD i 0<l.getD (i+1) 0)->(0<l.length->x<=l.getD 0 0)->(0<l.length->l.getD (l.length - 1) 0<n)->x<=n->QI x l n:=by
 intro l
 induction l with
 | nil=>intro x n _ _ _ h;exact h
 | cons a l ih =>
  intro x n h1 h2 h3 h4;refine⟨by simpa using h2 (by simp),ih (a+1) n (fun i hi => ?_) (fun h => ?_) (fun h => ?_) ?_⟩
  ·have:=h1 (i+1) (by simp;omega)
   simpa using this
  ·have:=h1 0 (by simp;omega)
   simp at this ⊢;omega
  ·have:=h3 (by simp)
   rw[show(a::l).length - 1=(l.length - 1)+1 by simp;omega] at this
   simpa using this
  ·cases l with
   | nil=>have:=h3 (by simp);simp at this;omega
   | cons b l =>
    have h5 : ∀j,j<(b::l).length->a<(a::b::l).getD (j+1) 0:=fun j=>by
     induction j with
     | zero=>intro _;have:=h1 0 (by simp);simpa using this
     | succ j ihj=>intro hj;have g1:=ihj (by omega);have g2:=h1 (j+1) (by simp at *;omega);omega
    have h6:=h5 l.length (by simp)
    have h7:=h3 (by simp)
    simp only[List.length_cons,Nat.add_sub_cancel] at h7;omega
def QG(n:Nat)(l:List Nat):Nat:=if 2^40<n then 30 else if incB l=false then 40 else if n<=l.getD (l.length - 1) 0 then 31 else 0
def rstS(n:Nat)(l:List Nat):List (Nat×Nat):=if QG n l=0 then rst 0 n l else []
theorem Yw{n:Nat}{l:List Nat}(h:QG n l=0):n<=2^40∧Inc l∧l.getD (l.length - 1) 0<n∧QI 0 l n:=by
 unfold QG at h
 split at h
 ·cases h
 ·rename_i h1
  split at h
  ·cases h
  ·rename_i h2
   split at h
   ·cases h
   ·rename_i h3
    have hi:Inc l:=(UO l).1 (by cases hb:incB l with
     | true=>rfl
     | false=>exact absurd hb h2)
    exact⟨by omega,hi,by omega,Qeh l 0 n hi.2 (fun _=>Ll _) (fun _=>by omega) (Ll _)⟩
theorem QiC(w:World)(ao:OA)(b off n cap:Nat)(l:List Nat)(r:Rd w ao b off n l)(hn:n<=maxLen) :
  Calls prog 320 #[.slice ao n cap] w fun e w'=>e = .returned (.bool (incB l))∧Below w.heap.size w w':=by
 have xF:(n:Int)<=9223372036854775807:=by unfold maxLen at hn;omega
 have HR:Hid (Rd w ao b off n l):=r;clear hn r
 go_enter func320,ntmps320;go_wp2
 go_loopg [3] n (fun g i wr => ∃k:Nat,(k<=n∨k=1)∧1<=k∧g=n+1 - k∧i = .int .i64 (k:Int)∧(∀j,j+1<k->l.getD j 0<l.getD (j+1) 0)∧Below w.heap.size w wr)
 case atStart=>go_light;exact⟨1,.inr rfl,La _,by omega,rfl,fun j hj=>absurd hj (by omega),Lb _ _⟩
 case round =>
  obtain⟨k,hk,xE,rfl,rfl,he,hb⟩:=hrel;have xD:(0:Int)<=(k:Int):=Lf _
  by_cases hlt:k<n
  ·obtain⟨i,rfl⟩ : ∃i,k=i+1:=⟨k - 1,by omega⟩
   have r1:=HR.out.below hb;obtain rfl:=r1.addr (by omega)
   have c1:=r1.cell (i+1) hlt;have c2:=r1.cell i (by omega)
   have hz:((i+1:Nat):Int)<(n:Int):=by omega
   have ei:(((i+1:Nat):Int) - 1)=(i:Int):=by omega
   have ec:((i+1:Nat):Int)=(i:Int)+1:=by omega
   have xH:(i:Int)+1<(n:Int):=by omega
   have xI:(i:Int)<(n:Int):=by omega
   have xB:(0:Int)<=(i:Int):=Lf _;have xC:(0:Int)<=(i:Int)+1:=by omega
   have HB:Hid (Below w.heap.size w wr):=hb;have HE:Hid (∀j,j+1<i+1->l.getD j 0<l.getD (j+1) 0):=he;have HI:Hid (¬l.getD i 0<l.getD (i+1) 0->incB l=false):=fun hno=>by
    cases hB:incB l with
    | false=>rfl
    | true=>exact absurd (((UO l).1 hB).2 i (by have:=HR.out.len;omega)) hno
   obtain⟨x,hx⟩:=Ze (l.getD (i+1) 0);obtain⟨y,hy⟩:=Ze (l.getD i 0);rw[hx] at c1;rw[hy] at c2;rw[hx,hy] at HI;have HX:Hid (l.getD (i+1) 0=x∧l.getD i 0=y):=⟨hx,hy⟩;have xA:i+1<n:=hlt;clear hx hy r1 hb he hk hlt
   by_cases hxy:x<=y
   ·have HN:Hid (incB l=false):=HI.out (by omega)
    go_wp2
    go_quiet (fail)
    go_wp2
    go_ret
    exact⟨by rw[HN.out];rfl,Qf HB.out _⟩
   ·go_wp2
    go_quiet (fail)
    go_wp2
    go_roundg (n+1 - (i+1+1))
    case rel =>
     go_light;refine⟨i+1+1,by omega,by omega,rfl,by go_num,fun j hj => ?_,Qf HB.out _⟩
     by_cases hjk:j=i
     ·subst hjk;rw[HX.out.1,HX.out.2];omega
     ·exact HE.out j (by omega)
    case measure=>go_light;omega
  ·have hz : ¬(k:Int)<(n:Int):=by omega
   have xG : ¬k<n:=by omega
   have HN:Hid (decide ((0:Int)<(n:Int))=incB l):=by
    have hl:=HR.out.len
    cases hB:incB l with
    | true=>have:=((UO l).1 hB).1;exact LA (by omega)
    | false =>
     refine Ls (fun hp => ?_)
     have:incB l=true:=(UO l).2 ⟨by omega,fun i hi=>he i (by omega)⟩
     rw[this] at hB;cases hB
   have HB:Hid (Below w.heap.size w wr):=hb;clear he hb hk;go_wp2
   go_ret
   refine⟨?_,HB.out⟩
   have:=HN.out;simp at this ⊢;exact this
theorem Ym(m:Nat)(w:World)(ao:OA)(b off n cap:Nat)(l:List Nat)(r:Rd w ao b off n l)(hn:n<=maxLen) :
  Calls prog 228 #[.int .u64 (m:Int),.slice ao n cap] w fun e w'=>e = .returned (.int .i64 (QG m l:Nat))∧Below w.heap.size w w':=by
 have HR:=QiC w ao b off n cap l r hn;have xE:(n:Int)<=9223372036854775807:=by unfold maxLen at hn;omega
 by_cases h1:2^40<m
 ·have ht:decide ((1099511627776:Int)<(m:Int))=true:=LA (by omega)
  have he:QG m l=30:=by rw[QG,Lk h1]
  rw[he];clear h1 he
  go_enter func228,ntmps228;go_wp2
  go_ret
  exact⟨rfl,Lb _ _⟩
 ·have ht:decide ((1099511627776:Int)<(m:Int))=false:=Ls (by omega)
  cases h2:incB l with
  | false =>
   have he:QG m l=40:=by rw[QG,Le h1,Lk h2]
   rw[he];rw[h2] at HR;clear h1 he
   go_enter func228,ntmps228
   go_wp2_with (go_at_call 320;with_reducible refine HR.mono ?_;rintro e w1 ⟨rfl,hb⟩)
   go_ret
   exact⟨rfl,hb⟩
  | true =>
   have h3:=(UO l).1 h2;have hl:=r.len;rw[h2] at HR;obtain⟨j,rfl⟩ : ∃j,n=j+1:=⟨n - 1,by have:=h3.1;omega⟩
   obtain rfl:=r.addr (by omega)
   have hc:=r.cell j (by omega)
   have e1:(((j+1:Nat):Int) - 1)=(j:Int):=by omega
   have e2:((j+1:Nat):Int)=(j:Int)+1:=by omega
   have xF:(j:Int)<(j:Int)+1:=by omega
   have xD:(0:Int)<=(j:Int):=Lf _;have xA:l.getD (l.length - 1) 0=l.getD j 0:=by rw[hl];rfl
   obtain⟨x,hx⟩:=Ze (l.getD j 0);rw[hx] at hc xA;have xB : ∀w',Below w.heap.size w w'->w'.cell? ⟨b,off+j,none⟩=some (.int .u64 (x:Int)):=fun w' hb=>(hb.cell (p:=⟨b,off+j,none⟩) (Ln w _ hc)).trans hc
   by_cases h4:m<=x
   ·have he:QG m l=31:=by rw[QG,Le h1,Le (by rw[h2];decide),Lk (by rw[xA];exact h4)]
    rw[he];have xC:(m:Int)<=(x:Int):=by omega
    clear h1 he h2 h3 hl hx xA r hn
    go_enter func228,ntmps228
    go_wp2_with (go_at_call 320;with_reducible refine HR.mono ?_;rintro e w1 ⟨rfl,hb⟩;have c1:=xB w1 hb)
    go_ret
    exact⟨rfl,hb⟩
   ·have he:QG m l=0:=by rw[QG,Le h1,Le (by rw[h2];decide),Le (by rw[xA];exact h4)]
    rw[he];have xC : ¬(m:Int)<=(x:Int):=by omega
    clear h1 he h2 h3 hl hx xA r hn
    go_enter func228,ntmps228
    go_wp2_with (go_at_call 320;with_reducible refine HR.mono ?_;rintro e w1 ⟨rfl,hb⟩;have c1:=xB w1 hb)
    go_ret
    exact⟨rfl,hb⟩
theorem QjG(l:List Nat)(j:Nat)(h:j<l.length):l.drop j=l.getD j 0::l.drop (j+1):=by
 rw[LN h,Ld,Lh h];rfl
theorem OE{k B0 M:Nat}(hk:k=277∨k=230∨k=389){I:(Nat->Prop)->List (Nat×Nat)->World->Prop}(G:Give k B0 M I)(hM:M<=4611686018427387904)(X:Nat->Prop)(acc:List (Nat×Nat))(n:Nat)(w:World)
  (ao:OA) (b off m cap:Nat) (l:List Nat) (hI:I X acc w) (hX : ∀x,X x->x<w.heap.size) (hl:acc.length+100*(m+1)+1000<M) (r:Rd w ao b off m l) (hb:0<m->b<B0) (hc:QI 0 l n) (hn:n<=2^40) :
  Calls prog 229 #[.int .u64 (n:Int),.slice ao m cap,gv k B0] w fun e w'=>e = .returned (.tuple #[])∧I X (acc++rst 0 n l) w'∧Below B0 w w' ∧ ∀x,X x->w'.heap[x]? = w.heap[x]? := by
 have HS:Hid (I X acc w∧(∀x,X x->x<w.heap.size)∧acc.length+100*(m+1)+1000<M∧Rd w ao b off m l∧(0<m->b<B0)∧QI 0 l n∧n<=2^40):=⟨hI,hX,hl,r,hb,hc,hn⟩;have HM:Hid (M<=4611686018427387904):=hM;clear hI hX hl r hb hc hn hM
 go_enter func229,ntmps229;go_wp2
 go_loopg [6,8,11] m (fun g nx i8 ix wr => ∃(j next:Nat) (acc':List (Nat×Nat)),j<=m∧g=m - j∧ix = .int .i64 (j:Int)∧nx = .int .u64 (next:Int)∧I X acc' wr∧acc'++rst next n (l.drop j)=acc++rst 0 n l∧QI next (l.drop j) n∧Below B0 w wr∧(∀x,X x->wr.heap[x]? = w.heap[x]?)∧acc'.length<=acc.length+80*j)
 case atStart=>go_light;exact⟨0,0,acc,Ll _,rfl,rfl,rfl,HS.out.1,rfl,HS.out.2.2.2.2.2.1,Lb _ _,fun _ _=>rfl,La _⟩
 case round =>
  obtain⟨j,next,acc',hj,rfl,rfl,rfl,xF,xA,xD,xB,xH,xE⟩:=hrel;obtain⟨s1,s2,s3,s4,s5,s6,s7⟩:=HS.out;have xN:=HM.out;have xP:(0:Int)<=(j:Int):=Lf _;have xQ:(j:Int)<=4611686018427387904:=by omega
  clear xN
  by_cases hlt:j<m
  ·have xK:(j:Int)<(m:Int):=by omega
   have r':=s4.at xB s5;obtain rfl:=r'.addr (by omega)
   have cj:=r'.cell j hlt;have hd:=QjG l j (by have:=s4.len;omega)
   obtain⟨x,hx⟩:=Ze (l.getD j 0);rw[hx] at cj hd;rw[hd] at xA xD;obtain⟨xL,xC⟩:=xD;have xO:=Ys xC;have HE:=Qbl hk G X acc' next x wr xF (fun y hy=>Lx (s2 y hy) xB.size) (by omega) xL (by omega)
   have ex:IntKind.u64.wrap ((x:Int)+1)=(x:Int)+1:=by rw[IntKind.wrap_u64];omega
   have HX:Hid (acc'++cov next x++rst (x+1) n (l.drop (j+1))=acc++rst 0 n l∧QI (x+1) (l.drop (j+1)) n∧Below B0 w wr∧(∀y,X y->wr.heap[y]? = w.heap[y]?)∧(acc'++cov next x).length<=acc.length+80*(j+1)∧j+1<=m):=by
    refine⟨by rw[Lq];exact xA,xC,xB,xH,?_,hlt⟩
    have:=JM next x xL (by omega)
    simp;omega
   clear xA xC xB xH xE hlt r' hd hx xL xO s1 s2 s3 s4 s5 s6 s7 xF hj
   go_wp2_with (go_at_call 276;with_reducible refine HE.mono ?_;rintro e w1 ⟨rfl,xG,xI,xJ⟩)
   go_roundg (m - (j+1))
   case rel=>go_light;obtain⟨x1,x2,x3,x4,x5,x6⟩:=HX.out;refine⟨j+1,x+1,_,x6,rfl,by go_num,by go_num,xG,x1,x2,x3.trans xI,fun y hy=>(xJ y hy).trans (x4 y hy),x5⟩
   case measure=>go_light;have:=HX.out.2.2.2.2.2;omega
  ·obtain rfl:j=m:=by omega
   have xK : ¬(j:Int)<(j:Int):=by omega
   have xM:l.drop j=[]:=List.drop_eq_nil_iff.2 (by have:=s4.len;omega)
   rw[xM] at xA xD;have HE:=Qbl hk G X acc' next n wr xF (fun y hy=>Lx (s2 y hy) xB.size) (by omega) xD s7
   have HX:Hid (acc'++cov next n=acc++rst 0 n l∧Below B0 w wr∧(∀y,X y->wr.heap[y]? = w.heap[y]?)):=⟨xA,xB,xH⟩;clear xA xB xH xE hlt xM s1 s2 s3 s4 s5 s6 s7 xF hj xD
   go_wp2_with (go_at_call 276;with_reducible refine HE.mono ?_;rintro e w1 ⟨rfl,xG,xI,xJ⟩)
   go_end0
   obtain⟨x1,x2,x3⟩:=HX.out;rw[x1] at xG;exact⟨rfl,xG,x2.trans xI,fun y hy=>(xJ y hy).trans (x3 y hy)⟩
theorem Qe5(n e:Nat)(w:World)(ao:OA)(b off m cap:Nat)(l:List Nat)(r:Rd w ao b off m l)(hm:m<=maxLen)(he:QG n l=e)(h0:e≠0) :
  Calls prog 140 #[.int .u64 (n:Int),.slice ao m cap] w fun x w' => ∃v,x = .returned (.tuple #[v,.int .i64 (e:Int)])∧Uh w' w.heap.size v []∧Below w.heap.size w w':=by
 have HC:=Ym n w ao b off m cap l r hm;rw[he] at HC;have xA : ¬(e:Int)=0:=by omega
 clear he r hm
 go_enter func140,ntmps140
 go_wp2_with (go_at_call 228;with_reducible refine HC.mono ?_;rintro x w1 ⟨rfl,hb⟩)
 go_ret2
 exact⟨_,rfl,Nh _ _ _ _,hb⟩
theorem QmQ(n:Nat)(w:World)(ao:OA)(b off m cap:Nat)(l:List Nat)(r:Rd w ao b off m l)(hm:m<=5000)(he:QG n l=0) :
  Calls prog 140 #[.int .u64 (n:Int),.slice ao m cap] w fun x w' => ∃v,x = .returned (.tuple #[v,.int .i64 0])∧Uh w' w.heap.size v (zl (rst 0 n l))∧Below w.heap.size w w':=by
 have HC:=Ym n w ao b off m cap l r (by unfold maxLen;omega)
 obtain⟨g1,g2,g3,g4⟩:=Yw he;rw[he] at HC;have HE : ∀w1,Below w.heap.size w w1->_:=fun w1 hb1=>OE (.inr (.inl rfl)) (Qh8 w1.heap.size) (by decide) (fun _=>False) [] n (w1.alloc (.cells #[.slice none 0 0] 187)) ao b off m cap l (Qj1 w1) (fun _ h=>h.elim) (by simp;omega) ((r.below hb1).below ((Lb _ w1).alloc (La _) _)) (fun h=>Lx (r.lt h) hb1.size) g4 g1
 clear he r hm g1 g2 g3 g4
 go_enter func140,ntmps140
 go_upto_region 6 with (first
  | (go_at_call 228;with_reducible refine HC.mono ?_;rintro x w1 ⟨rfl,hb⟩;replace HE:=HE w1 hb)
  | (go_at_call 229;with_reducible refine HE.mono ?_;rintro x w2 ⟨rfl,hI,xA,_⟩))
 obtain⟨⟨v,h1,h2,_⟩,_⟩:=hI;have c0:=cell_of_one h1;obtain⟨ao,m,c,rfl⟩:=Qx h2;have HF:Hid (Uh w2 w.heap.size (.slice ao m c) (zl (rst 0 n l))∧Below w.heap.size w w2):=⟨by
  have:=h2.mono (base':=w.heap.size) (by have:=hb.size;omega)
  simpa using this,hb.trans ((((Lb _ w1).alloc (La _) _).trans xA).mono hb.size)⟩
 clear h1 h2 xA HE hb;go_wp2
 go_ret2
 exact⟨_,rfl,HF.out.1,HF.out.2⟩
theorem QkO(n:Nat)(w:World)(ao:OA)(b off m cap:Nat)(l:List Nat)(r:Rd w ao b off m l)(hm:m<=5000) :
  Calls prog 140 #[.int .u64 (n:Int),.slice ao m cap] w fun x w' => ∃v,x = .returned (.tuple #[v,.int .i64 (QG n l:Nat)])∧Uh w' w.heap.size v (zl (rstS n l))∧Below w.heap.size w w':=by
 by_cases h:QG n l=0
 ·rw[rstS,Lk h,h];exact QmQ n w ao b off m cap l r hm h
 ·rw[rstS,Le h];exact Qe5 n _ w ao b off m cap l r (by unfold maxLen;omega) rfl h
theorem Qn7(w:World):IC w.heap.size (fun _=>False) [] (w.alloc (.cells #[.int .u64 0] 48)):=⟨OJ _ _,fun h=>h⟩
theorem QhX(n e:Nat)(w:World)(ao:OA)(b off m cap:Nat)(l:List Nat)(r:Rd w ao b off m l)(hm:m<=maxLen)(he:QG n l=e)(h0:e≠0) :
  Calls prog 323 #[.int .u64 (n:Int),.slice ao m cap] w fun x w'=>x = .returned (.tuple #[.int .u64 0,.int .i64 (e:Int)])∧Below w.heap.size w w':=by
 have HC:=Ym n w ao b off m cap l r hm;rw[he] at HC;have xA : ¬(e:Int)=0:=by omega
 clear he r hm
 go_enter func323,ntmps323
 go_wp2_with (go_at_call 228;with_reducible refine HC.mono ?_;rintro x w1 ⟨rfl,hb⟩)
 go_ret2
 exact⟨rfl,hb⟩
theorem Qek(n:Nat)(w:World)(ao:OA)(b off m cap:Nat)(l:List Nat)(r:Rd w ao b off m l)(hm:m<=17592186044416)(he:QG n l=0) :
  Calls prog 323 #[.int .u64 (n:Int),.slice ao m cap] w fun x w'=>x = .returned (.tuple #[.int .u64 ((rst 0 n l).length:Nat),.int .i64 0])∧Below w.heap.size w w':=by
 have HC:=Ym n w ao b off m cap l r (by unfold maxLen;omega)
 obtain⟨g1,g2,g3,g4⟩:=Yw he;rw[he] at HC;have HE : ∀w1,Below w.heap.size w w1->_:=fun w1 hb1=>OE (.inr (.inr rfl)) (QfP w1.heap.size) (by decide) (fun _=>False) [] n (w1.alloc (.cells #[.int .u64 0] 48)) ao b off m cap l (Qn7 w1) (fun _ h=>h.elim) (by simp;omega) ((r.below hb1).below ((Lb _ w1).alloc (La _) _)) (fun h=>Lx (r.lt h) hb1.size) g4 g1
 clear he r hm g1 g2 g3 g4
 go_enter func323,ntmps323
 go_upto_region 6 with (first
  | (go_at_call 228;with_reducible refine HC.mono ?_;rintro x w1 ⟨rfl,hb⟩;replace HE:=HE w1 hb)
  | (go_at_call 229;with_reducible refine HE.mono ?_;rintro x w2 ⟨rfl,hI,xA,_⟩))
 have h1:=hI.at0;rw[Nd] at h1;have c0:=cell_of_one h1;have HF:Hid (Below w.heap.size w w2):=hb.trans ((((Lb _ w1).alloc (La _) _).trans xA).mono hb.size);clear h1 hI xA HE hb;go_wp2
 go_ret2
 exact⟨rfl,HF.out⟩
theorem UJ(n:Nat)(w:World)(ao:OA)(b off m cap:Nat)(l:List Nat)(r:Rd w ao b off m l)(hm:m<=17592186044416) :
  Calls prog 323 #[.int .u64 (n:Int),.slice ao m cap] w fun x w'=>x = .returned (.tuple #[.int .u64 ((rstS n l).length:Nat),.int .i64 (QG n l:Nat)])∧Below w.heap.size w w':=by
 by_cases h:QG n l=0
 ·rw[rstS,Lk h,h];exact Qek n w ao b off m cap l r hm h
 ·rw[rstS,Le h];exact QhX n _ w ao b off m cap l r (by unfold maxLen;omega) rfl h
theorem Qnk{A:Nat->Prop}{q:Nat} : ∀ {L:List (Nat×Nat)} {p:Nat},Til A q p L -> ∀b∈L,¬All A (b.1+1) (b.2 / 2)∧(b.2+1)*pw b.1<=q:=by
 intro L
 induction L with
 | nil=>intro p _ b hb;cases hb
 | cons c L ih =>
  intro p h b hb
  rcases List.mem_cons.1 hb with rfl|hb
  ·exact⟨h.2.2.2.2.1,h.2.1⟩
  ·exact ih h.2.2.2.2.2 b hb
end Cv
namespace Cv
open Pl
def tin(lo hi:Nat):Nat->Nat->List (Nat×Nat)
 | 0,K=>if lo<=K*pw 0∧(K+1)*pw 0<=hi then [(0,K)] else []
 | H+1,K=>if lo<=K*pw (H+1)∧(K+1)*pw (H+1)<=hi then [(H+1,K)] else if (K+1)*pw (H+1)<=lo∨hi<=K*pw (H+1) then [] else tin lo hi H (2*K)++tin lo hi H (2*K+1)
def inb(H K i:Nat):Bool:=decide (K*pw H<=i) && decide (i<(K+1)*pw H)
def tno:Nat->Nat->List Nat->List (Nat×Nat)
 | 0,K,S=>if (S.filter (inb 0 K)).length=0 then [(0,K)] else []
 | H+1,K,S=>if (S.filter (inb (H+1) K)).length=0 then [(H+1,K)] else tno H (2*K) (S.filter (inb (H+1) K))++tno H (2*K+1) (S.filter (inb (H+1) K))
theorem Ye{H K i:Nat} : inb H K i=true↔K*pw H<=i∧i<(K+1)*pw H:=by simp[inb]
theorem Y4(H K:Nat):(2*K)*pw H=K*pw (H+1):=(Q7 K H).symm
theorem UN(H K:Nat):(2*K+1)*pw H=K*pw (H+1)+pw H:=by rw[LL,LV,Y4]
theorem U3(H K:Nat):(2*K+1+1)*pw H=(K+1)*pw (H+1):=by rw[show 2*K+1+1=2*(K+1) by omega,Y4]
theorem Oz(H K:Nat):(K+1)*pw (H+1)=K*pw (H+1)+pw H+pw H:=by rw[LL,LV,QJ];omega
theorem Qa5{A:Nat->Prop}{H K:Nat}(ha:All A H K)(hp : ¬All A (H+1) (K / 2)):Til A ((K+1)*pw H) (K*pw H) [(H,K)] :=
 ⟨La _,La _,fun i h1 h2=>by dsimp only at h2;omega,ha,hp,La _,fun i h1 h2=>by dsimp only at h1;omega⟩
theorem Qnm(lo hi:Nat) : ∀H K,¬All (Rg lo hi) (H+1) (K / 2)->Til (Rg lo hi) ((K+1)*pw H) (K*pw H) (tin lo hi H K):=by
 intro H
 induction H with
 | zero =>
  intro K hp;rw[tin];have e0:pw 0=1:=rfl
  split
  ·rename_i h
   exact Qa5 (fun i h1 h2=>⟨by omega,by omega⟩) hp
  ·rename_i h
   refine⟨by rw[e0];omega,fun i h1 h2 hr=>h ?_⟩
   rw[e0] at *;have xB:=hr.1;have xC:=hr.2;omega
 | succ H ih =>
  intro K hp;rw[tin];have hb:=Oz H K;have xD:=QB H
  split
  ·rename_i h
   exact Qa5 (fun i h1 h2=>⟨by omega,by omega⟩) hp
  ·rename_i h
   split
   ·rename_i h'
    exact⟨by omega,fun i h1 h2 hr=>by have xB:=hr.1;have xC:=hr.2;omega⟩
   ·rename_i h'
    have xA : ¬All (Rg lo hi) (H+1) K:=fun hall=>h ⟨(hall _ (La _) (by omega)).1,by
     have:=(hall ((K+1)*pw (H+1) - 1) (by omega) (by omega)).2;omega⟩
    have t1:=ih (2*K) (by rw[show 2*K / 2=K by omega];exact xA)
    have t2:=ih (2*K+1) (by rw[show(2*K+1) / 2=K by omega];exact xA)
    rw[U3] at t2;rw[Y4] at t1;exact Qad t2 t1
theorem Qno(A:Nat->Prop) : ∀H K (S:List Nat),(∀i,K*pw H<=i->i<(K+1)*pw H->(A i↔i ∉ S)) -> ¬All A (H+1) (K / 2)->Til A ((K+1)*pw H) (K*pw H) (tno H K S):=by
 intro H
 induction H with
 | zero =>
  intro K S hA hp;rw[tno];have e0:pw 0=1:=rfl
  split
  ·rename_i h
   refine Qa5 (fun i h1 h2=>(hA i h1 h2).2 (fun hi => ?_)) hp
   have hm:i∈S.filter (inb 0 K):=List.mem_filter.2 ⟨hi,Ye.2 ⟨h1,h2⟩⟩;rw[List.length_eq_zero_iff.1 h] at hm
   cases hm
  ·rename_i h
   refine⟨by rw[e0];omega,fun i h1 h2 hr=>h ?_⟩
   cases hm:S.filter (inb 0 K) with
   | nil=>rfl
   | cons s M =>
    have hs:s∈S.filter (inb 0 K):=by rw[hm];exact Nv
    obtain⟨g1,g2⟩:=List.mem_filter.1 hs;obtain⟨g3,g4⟩:=Ye.1 g2;rw[e0] at *;obtain rfl:i=s:=by omega
    exact absurd g1 ((hA i h1 h2).1 hr)
 | succ H ih =>
  intro K S hA hp;rw[tno];have hb:=Oz H K;have xB:=QB H
  split
  ·rename_i h
   refine Qa5 (fun i h1 h2=>(hA i h1 h2).2 (fun hi => ?_)) hp
   have hm:i∈S.filter (inb (H+1) K):=List.mem_filter.2 ⟨hi,Ye.2 ⟨h1,h2⟩⟩;rw[List.length_eq_zero_iff.1 h] at hm
   cases hm
  ·rename_i h
   have xA : ¬All A (H+1) K:=fun hall=>h (by
    cases hm:S.filter (inb (H+1) K) with
    | nil=>rfl
    | cons s M =>
     have hs:s∈S.filter (inb (H+1) K):=by rw[hm];exact Nv
     obtain⟨g1,g2⟩:=List.mem_filter.1 hs;obtain⟨g3,g4⟩:=Ye.1 g2;exact absurd g1 ((hA s g3 g4).1 (hall s g3 g4)))
   have hM : ∀i,K*pw (H+1)<=i->i<(K+1)*pw (H+1)->(A i↔i ∉ S.filter (inb (H+1) K)):=fun i h1 h2=>by
    rw[hA i h1 h2,List.mem_filter,Ye];exact⟨fun h g=>h g.1,fun h g=>h ⟨g,h1,h2⟩⟩
   have e1:=Y4 H K;have e2:=UN H K;have e3:=U3 H K;have t1:=ih (2*K) (S.filter (inb (H+1) K)) (fun i h1 h2=>hM i (by omega) (by omega)) (by rw[show 2*K / 2=K by omega];exact xA)
   have t2:=ih (2*K+1) (S.filter (inb (H+1) K)) (fun i h1 h2=>hM i (by omega) (by omega)) (by rw[show(2*K+1) / 2=K by omega];exact xA)
   rw[U3] at t2;rw[Y4] at t1;exact Qad t2 t1
theorem Qoi{A:Nat->Prop}{n:Nat}(t:Nat->Nat->List (Nat×Nat))(ht : ∀h k,(k+1)*pw h<=n -> ¬All A (h+1) (k / 2)->Til A ((k+1)*pw h) (k*pw h) (t h k))(hn : ¬A n) :
  ∀h x,(∃c,x=c*pw h)->n - x<pw h->x<=n->Til A n x ((dnL h x n).flatMap (fun b=>t b.1 b.2)):=by
 intro h
 induction h with
 | zero =>
  intro x _ h2 h3;rw[OZ] at h2;exact⟨h3,fun i h5 h6=>by omega⟩
 | succ h ih =>
  intro x h1 h2 h3;obtain⟨c,hc⟩:=h1;have hp:=QB h;have xA:=QJ h;rw[Q7] at hc;rw[dnL]
  split
  ·rename_i hfit
   have hk:x / pw h=2*c:=by rw[hc];exact Nx _ hp
   have e1:(2*c+1)*pw h=x+pw h:=by rw[LL,LV,<-hc]
   have e2:2*c / 2=c:=by omega
   have e3:c*pw (h+1)=x:=by rw[Q7];exact hc.symm
   rw[hk,I0];have t1:=ht h (2*c) (by omega) (by rw[e2];exact fun hall=>hn (hall n (by omega) (by rw[LL,LV,e3];omega)))
   have t2:=ih (x+pw h) ⟨2*c+1,e1.symm⟩ (by omega) (by omega)
   rw[<-e1] at t2;rw[<-hc] at t1;rw[<-e1];exact Qad t2 t1
  ·exact ih x ⟨2*c,hc⟩ (by omega) h3
theorem mt_all {A:Nat->Prop} {n:Nat} (t:Nat->Nat->List (Nat×Nat)) (ht : ∀h k,(k+1)*pw h<=n -> ¬All A (h+1) (k / 2)->Til A ((k+1)*pw h) (k*pw h) (t h k)) (hn : ¬A n) (h40:n<=2^40) :
    Til A n 0 ((dnL 41 0 n).flatMap (fun b=>t b.1 b.2)) :=
  Qoi t ht hn 41 0 ⟨0, by simp⟩ (by have : pw 41 = 2 ^ 41:=rfl
                                    omega) (Ll _)
theorem Qiy(lo hi n:Nat)(h1:lo<=hi)(h2:hi<=n)(h3:n<=2^40):cov lo hi=(dnL 41 0 n).flatMap (fun b=>tin lo hi b.1 b.2):=by
 have t1:=QaV lo hi h1 (by omega)
 have t2:Til (Rg lo hi) n 0 (cov lo hi):=Qd2 (Qnl t1 h2 (fun i i1 i2 hr=>by have:=hr.2;omega)) (Ll _) (fun i i1 i2 hr=>by have:=hr.1;omega)
 exact Qhr t2 (mt_all (tin lo hi) (fun h k _ hp=>Qnm lo hi h k hp) (fun hr=>by have:=hr.2;omega) h3)
theorem QmD(h k:Nat):k / 2*pw (h+1)<=k*pw h∧(k+1)*pw h<=(k / 2+1)*pw (h+1):=by
 rw[Q7,Q7];exact⟨LU _ (by omega),LU _ (by omega)⟩
theorem Qhs{A:Nat->Prop}{lo hi:Nat}(hA : ∀j,lo<=j->j<hi->A j)(hl:lo=0 ∨ ¬A (lo - 1))(hh : ¬A hi) : ∀ {L:List (Nat×Nat)} {p:Nat},lo<=p->Til (Rg lo hi) hi p L->Til A hi p L:=by
 intro L
 induction L with
 | nil=>intro p h1 h2;exact⟨h2.1,fun i i1 i2=>absurd ⟨by omega,i2⟩ (h2.2 i i1 i2)⟩
 | cons b L ih =>
  intro p h1 h2;obtain⟨a1,a2,a3,a4,a5,a6⟩:=h2;have xA:=Jj b.1 b.2;refine⟨a1,a2,fun i i1 i2=>absurd ⟨by omega,by omega⟩ (a3 i i1 i2),fun i i1 i2=>hA i (by omega) (by omega),fun hall=>a5 (fun i i1 i2 => ?_),ih (by omega) a6⟩
  obtain⟨p1,p2⟩:=QmD b.1 b.2;refine⟨?_,?_⟩
  ·by_cases hlo:lo<=i
   ·exact hlo
   ·rcases hl with hl|hl
    ·omega
    ·exact absurd (hall (lo - 1) (by omega) (by omega)) hl
  ·by_cases hhi:i<hi
   ·exact hhi
   ·exact absurd (hall hi (by omega) (by omega)) hh
theorem QhQ : ∀ {S:List Nat} {x n:Nat},QI x S n -> ∀s∈S,x<=s∧s<n:=by
 intro S
 induction S with
 | nil=>intro x n _ s hs;cases hs
 | cons i S ih =>
  intro x n h s hs;have h1:=h.1;have h2:=Ys h.2
  rcases List.mem_cons.1 hs with rfl|hs
  ·exact⟨h1,by omega⟩
  ·have:=ih h.2 s hs;omega
theorem QmV{A:Nat->Prop}{n:Nat}(hn:n<=2^40) : ∀(S:List Nat) (x:Nat),(∀i,x<=i->(A i↔i<n∧i ∉ S))->(x=0 ∨ ¬A (x - 1))->QI x S n->Til A n x (rst x n S):=by
  intro S
  induction S with
  | nil =>
    intro x hA hx hc;have xB:x<=n:=hc;exact Qhs (fun j j1 j2=>(hA j j1).2 ⟨j2,by simp⟩) hx (fun h=>by have:=((hA n xB).1 h).1;omega) (La _) (QaV x n xB hn)
  | cons i S ih =>
    intro x hA hx hc;obtain⟨c1,c2⟩:=hc;have xC:=Ys c2;have xA : ¬A i:=fun h=>((hA i c1).1 h).2 Nv
    have t1:Til A i x (cov x i):=Qhs (fun j j1 j2=>(hA j j1).2 ⟨by omega,fun hj=>by
      rcases List.mem_cons.1 hj with rfl|hj
      · omega
      · have:=QhQ c2 j hj;omega⟩) hx xA (La _) (QaV x i c1 (by omega))
    have t2:Til A n (i+1) (rst (i+1) n S):=ih (i+1) (fun j j1=>by
      rw[hA j (by omega)]
      refine⟨fun h=>⟨h.1,fun hj=>h.2 (LT _ hj)⟩,fun h=>⟨h.1,fun hj => ?_⟩⟩
      rcases List.mem_cons.1 hj with rfl|hj
      · omega
      · exact h.2 hj) (.inr (by rw[LP];exact xA)) c2
    exact Qad (Qd2 t2 (I3 i) (fun j j1 j2=>by obtain rfl : j = i:=by omega
                                              exact xA)) t1
abbrev But(n:Nat)(S:List Nat):Nat->Prop:=fun i=>i<n∧i ∉ S
theorem QdR(n:Nat)(S:List Nat)(hn:n<=2^40)(hc:QI 0 S n):Til (But n S) n 0 (rst 0 n S):=QmV hn S 0 (fun _ _=>Iff.rfl) (.inl rfl) hc
theorem Qe6(n:Nat)(S:List Nat)(hn:n<=2^40)(hc:QI 0 S n):rst 0 n S=(dnL 41 0 n).flatMap (fun b=>tno b.1 b.2 S) :=
 Qhr (QdR n S hn hc) (mt_all (fun h k=>tno h k S) (fun h k hk hp=>Qno _ h k S (fun i _ i2=>⟨fun h=>h.2,fun h=>⟨by omega,h⟩⟩) hp) (fun h=>by have:=h.1;omega) hn)
theorem QmU(n:Nat)(hn:n<=2^40) : ∀(S:List Nat) (x:Nat),QI x S n->(rst x n S).length<=80*(S.length+1):=by
 intro S
 induction S with
 | nil=>intro x hc;exact JM x n hc hn
 | cons i S ih =>
  intro x hc;have h1:=JM x i hc.1 (by have:=Ys hc.2;omega)
  have h2:=ih (i+1) hc.2;simp only[rst,List.length_append,List.length_cons];omega
theorem Qht(lo hi:Nat) : ∀H K,(tin lo hi H K).length<=pw H:=by
 intro H
 induction H with
 | zero=>intro K;rw[tin];split <;> simp[pw]
 | succ H ih =>
  intro K;have:=QB H;rw[tin,QJ]
  split
  ·simp;omega
  ·split
   ·simp
   ·have h1:=ih (2*K);have h2:=ih (2*K+1);simp;omega
theorem Qhu(H:Nat) : ∀K S,(tno H K S).length<=pw H:=by
 induction H with
 | zero=>intro K S;rw[tno];split <;> simp[pw]
 | succ H ih =>
  intro K S;have:=QB H;rw[tno,QJ]
  split
  ·simp;omega
  ·have h1:=ih (2*K) (S.filter (inb (H+1) K));have h2:=ih (2*K+1) (S.filter (inb (H+1) K));simp;omega
theorem QkC(H K:Nat) : ∀M:List Nat,(∀i∈M,inb (H+1) K i=true)->(M.filter (inb H (2*K))).length+(M.filter (inb H (2*K+1))).length=M.length:=by
 have e1:=Y4 H K;have e2:=UN H K;have e3:=U3 H K;intro M
 induction M with
 | nil=>intro _;rfl
 | cons i M ih =>
  intro h;have h1:=Ye.1 (h i Nv);have h2:=ih (fun j hj=>h j (LT _ hj))
  by_cases hm:i<(2*K+1)*pw H
  ·have a1:inb H (2*K) i=true:=Ye.2 ⟨by omega,hm⟩
   have a2:inb H (2*K+1) i=false:=by
    cases hb:inb H (2*K+1) i with
    | false=>rfl
    | true=>have:=(Ye.1 hb).1;omega
   rw[N4 a1,NF (by rw[a2];decide),LE,LE];omega
  ·have a1:inb H (2*K+1) i=true:=Ye.2 ⟨by omega,by omega⟩
   have a2:inb H (2*K) i=false:=by
    cases hb:inb H (2*K) i with
    | false=>rfl
    | true=>have:=(Ye.1 hb).2;omega
   rw[N4 a1,NF (by rw[a2];decide),LE,LE];omega
theorem Qde(S:List Nat)(H K:Nat) : ∀i∈S.filter (inb H K),inb H K i=true:=fun _ hi=>(List.mem_filter.1 hi).2
theorem QaD : ∀H K (S:List Nat),((S.filter (inb H K)).length=0->(tno H K S).length=1)∧((S.filter (inb H K)).length≠0->(tno H K S).length<=(S.filter (inb H K)).length*H):=by
 intro H
 induction H with
 | zero =>
  intro K S;refine⟨fun h=>by rw[tno,Lk h];rfl,fun h=>by rw[tno,Le h];simp⟩
 | succ H ih =>
  intro K S;refine⟨fun h=>by rw[tno,Lk h];rfl,fun h => ?_⟩
  rw[tno,Le h,Lc];have hp:=QkC H K (S.filter (inb (H+1) K)) (Qde S (H+1) K);obtain⟨l0,l1⟩:=ih (2*K) (S.filter (inb (H+1) K));obtain⟨r0,r1⟩:=ih (2*K+1) (S.filter (inb (H+1) K));generalize ((S.filter (inb (H+1) K)).filter (inb H (2*K))).length=a at *;generalize ((S.filter (inb (H+1) K)).filter (inb H (2*K+1))).length=b at *;generalize (tno H (2*K) (S.filter (inb (H+1) K))).length=x at *;generalize (tno H (2*K+1) (S.filter (inb (H+1) K))).length=y at *;generalize (S.filter (inb (H+1) K)).length=c at *;subst hp;rw[NP,L8,LL]
  by_cases ha:a=0
  ·have:=l0 ha;have hb:b≠0:=by omega
   have:=r1 hb;subst ha;omega
  ·have:=l1 ha
   by_cases hb:b=0
   ·have:=r0 hb;subst hb;omega
   ·have:=r1 hb;omega
theorem YQ : ∀ {S:List Nat} {a n:Nat} (_:QI a S n) (j:Nat),j<S.length->S.getD j 0<n∧a<=S.getD j 0 ∧ ∀t,t<j->S.getD t 0<S.getD j 0:=by
 intro S
 induction S with
 | nil=>intro a n _ j hj;simp at hj
 | cons s r ih =>
  intro a n h j hj;have xA:=Ys h.2
  cases j with
  | zero=>exact⟨by simp;omega,by simpa using h.1,fun t ht=>absurd ht (IN t)⟩
  | succ j =>
   obtain⟨g1,g2,g3⟩:=ih h.2 j (by simp at hj;omega)
   have h1:=h.1;refine⟨by simpa using g1,by simp;simp at g2;omega,fun t ht => ?_⟩
   cases t with
   | zero=>simp;simp at g2;omega
   | succ t=>have:=g3 t (by omega);simpa using this
theorem Qcp{S:List Nat}{n:Nat}(h:QI 0 S n)(h0:S≠[])(hn:n<=2^40):QG n S=0:=by
 have hl:0<S.length:=List.length_pos_iff.2 h0;have hi:Inc S:=⟨hl,fun i hi=>(YQ h (i+1) hi).2.2 i (by omega)⟩
 have xA:=(YQ h (S.length - 1) (by omega)).1
 rw[QG,Le (by omega),Le (by rw[(UO S).2 hi];decide),Le (by omega)]
end Cv
end Go.Proofs.YtoblgjledefdbaaGreatDoor
