/-
  The published sums: the plain functions evaluated by the kernel, step by step. Own work.
-/
import Derived.Test.YtabdobdopcfllaaDoorShWalkF
import Derived.KernelRfl
namespace Go.Proofs.YtabdobdopcfllaaDoor
open Go.RowKit

def forceN {α : Type} (n : Nat) (k : Nat → α) : α :=
  match n with
  | 0 => k 0
  | m + 1 => k (m + 1)
theorem forceN_eq {α : Type} (n : Nat) (k : Nat → α) : forceN n k = k n := by cases n <;> rfl
def forceI {α : Type} (x : Int) (k : Int → α) : α :=
  match x with
  | .ofNat n => forceN n fun n => k (.ofNat n)
  | .negSucc n => forceN n fun n => k (.negSucc n)
theorem forceI_eq {α : Type} (x : Int) (k : Int → α) : forceI x k = k x := by
  cases x with
  | ofNat n => exact forceN_eq n fun n => k (.ofNat n)
  | negSucc n => exact forceN_eq n fun n => k (.negSucc n)
def forceL {α : Type} (l : List Int) (k : List Int → α) : α :=
  match l with
  | [] => k []
  | x :: r => forceI x fun x => forceL r fun r => k (x :: r)
theorem forceL_eq {α : Type} (l : List Int) (k : List Int → α) : forceL l k = k l := by
  induction l generalizing k with
  | nil => rfl
  | cons x r ih => rw [forceL, forceI_eq, ih]

def schGo : Nat → Nat → List Int → List Int
  | 0, _, l => l
  | f + 1, k, l => forceL (l ++ [nextI (l.getD k 0) (l.getD (k + 1) 0) (l.getD (k + 9) 0) (l.getD (k + 14) 0)]) fun l => schGo f (k + 1) l
theorem schGo_eq (blk : List Int) (f k : Nat) : schGo f k (schN blk k) = schN blk (k + f) := by
  induction f generalizing k with
  | zero => rfl
  | succ f ih =>
    rw [schGo, forceL_eq]
    have := ih (k + 1)
    rw [schN] at this
    rw [this, show k + 1 + f = k + (f + 1) by omega]
def rndGo (rs ws : List Int) : Nat → Nat → S8 → S8
  | 0, _, v => v
  | f + 1, k, ⟨a, b, c, d, e, g, h, i⟩ =>
    forceI (oneI e g h i (rs.getD k 0) (ws.getD k 0)) fun one => forceI (IntKind.u32.wrap (one + twoI a b c)) fun x => forceI (IntKind.u32.wrap (d + one)) fun y => rndGo rs ws f (k + 1) ⟨x, a, b, c, y, e, g, h⟩
theorem rndGo_eq (rs ws : List Int) (v : S8) (f k : Nat) : rndGo rs ws f k (rnds v rs ws k) = rnds v rs ws (k + f) := by
  induction f generalizing k with
  | zero => cases rnds v rs ws k; rfl
  | succ f ih =>
    have h := ih (k + 1)
    rw [rnds] at h
    rw [show k + (f + 1) = k + 1 + f by omega, ← h]
    cases rnds v rs ws k
    rw [rndGo, forceI_eq, forceI_eq, forceI_eq]
    rfl
def foldS (rs st blk : List Int) : List Int :=
  forceL blk fun blk => forceL (sch0 blk 16) fun l => forceL (schGo 48 0 l) fun ws => forceL (sumI (s8of st) (rndGo rs ws 64 0 (s8of st))) fun r => r
theorem foldS_eq (rs st blk : List Int) : foldS rs st blk = foldI rs st blk := by
  rw [foldS, forceL_eq, forceL_eq, forceL_eq, forceL_eq, foldI]
  have h1 := schGo_eq blk 48 0
  rw [Nat.zero_add] at h1
  have h2 := rndGo_eq rs (schN blk 48) (s8of st) 64 0
  rw [Nat.zero_add] at h2
  rw [← h2, ← h1]
  rfl
def closeS (rs st blk : List Int) (n : Nat) : List Int :=
  if 55 < n % 64 then foldS rs (foldS rs st (endL blk (n % 64))) (lenAt (List.replicate 64 0) (IntKind.u64.wrap ((n : Int) * 8)) 8)
  else foldS rs st (lenAt (endL blk (n % 64)) (IntKind.u64.wrap ((n : Int) * 8)) 8)
theorem closeS_eq (rs st blk : List Int) (n : Nat) : closeS rs st blk n = closeI rs st blk n := by
  unfold closeS closeI
  simp only [foldS_eq]
def shaE (rs t : List Int) : List Int := forceL (closeS rs IV (pad t) t.length) fun h => outB h 8
theorem shaE_eq (rs t : List Int) (h : t.length < 64) : shaE rs t = shaT rs t := by
  have e : t.length / 64 = 0 := by omega
  rw [shaE, forceL_eq, closeS_eq, shaT, e]
  rfl
/-- The words k0 to k63. -/
def RS : List Int := [1116352408, 1899447441, 3049323471, 3921009573, 961987163, 1508970993, 2453635748, 2870763221, 3624381080, 310598401, 607225278, 1426881987, 1925078388, 2162078206, 2614888103, 3248222580, 3835390401, 4022224774, 264347078, 604807628, 770255983, 1249150122, 1555081692, 1996064986, 2554220882, 2821834349, 2952996808, 3210313671, 3336571891, 3584528711, 113926993, 338241895, 666307205, 773529912, 1294757372, 1396182291, 1695183700, 1986661051, 2177026350, 2456956037, 2730485921, 2820302411, 3259730800, 3345764771, 3516065817, 3600352804, 4094571909, 275423344, 430227734, 506948616, 659060556, 883997877, 958139571, 1322822218, 1537002063, 1747873779, 1955562222, 2024104815, 2227730452, 2361852424, 2428436474, 2756734187, 3204031479, 3329325298]
theorem RS_len : RS.length = 64 := rfl
theorem ev_abc : shaE RS [97, 98, 99] = [186, 120, 22, 191, 143, 1, 207, 234, 65, 65, 64, 222, 93, 174, 34, 35, 176, 3, 97, 163, 150, 23, 122, 156, 180, 16, 255, 97, 242, 0, 21, 173] := by kernel_rfl
theorem ev_nil : shaE RS [] = [227, 176, 196, 66, 152, 252, 28, 20, 154, 251, 244, 200, 153, 111, 185, 36, 39, 174, 65, 228, 100, 155, 147, 76, 164, 149, 153, 27, 120, 82, 184, 85] := by kernel_rfl
def longT : List Int := [97, 98, 99, 100, 98, 99, 100, 101, 99, 100, 101, 102, 100, 101, 102, 103, 101, 102, 103, 104, 102, 103, 104, 105, 103, 104, 105, 106, 104, 105, 106, 107, 105, 106, 107, 108, 106, 107, 108, 109, 107, 108, 109, 110, 108, 109, 110, 111, 109, 110, 111, 112, 110, 111, 112, 113]
theorem ev_long : shaE RS longT = [36, 141, 106, 97, 210, 6, 56, 184, 229, 192, 38, 147, 12, 62, 96, 57, 163, 60, 228, 89, 100, 255, 33, 103, 246, 236, 237, 212, 25, 219, 6, 193] := by kernel_rfl
theorem sha_abc : shaS RS [97, 98, 99] = ⟨#[186, 120, 22, 191, 143, 1, 207, 234, 65, 65, 64, 222, 93, 174, 34, 35, 176, 3, 97, 163, 150, 23, 122, 156, 180, 16, 255, 97, 242, 0, 21, 173]⟩ := by
  rw [shaS, ← shaE_eq _ _ (by decide), ev_abc]; kernel_rfl
theorem sha_nil : shaS RS [] = ⟨#[227, 176, 196, 66, 152, 252, 28, 20, 154, 251, 244, 200, 153, 111, 185, 36, 39, 174, 65, 228, 100, 155, 147, 76, 164, 149, 153, 27, 120, 82, 184, 85]⟩ := by
  rw [shaS, ← shaE_eq _ _ (by decide), ev_nil]; kernel_rfl
theorem sha_long : shaS RS longT = ⟨#[36, 141, 106, 97, 210, 6, 56, 184, 229, 192, 38, 147, 12, 62, 96, 57, 163, 60, 228, 89, 100, 255, 33, 103, 246, 236, 237, 212, 25, 219, 6, 193]⟩ := by
  rw [shaS, ← shaE_eq _ _ (by decide), ev_long]; kernel_rfl
end Go.Proofs.YtabdobdopcfllaaDoor
