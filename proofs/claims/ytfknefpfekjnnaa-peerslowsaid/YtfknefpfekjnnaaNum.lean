/- Bytes and numbers, packets and their bytes: plain mathematics. No program in this text. -/
import Derived.WalkKit
import Derived.Laws.BytesArg
namespace Go.Proofs.Ytfknefpfekjnnaa
open Go.RowKit

/-- The n lowest bytes of a number, the highest first. -/
def be : Nat → Int → List Int
  | 0, _ => []
  | n + 1, x => (x / 256 ^ n % 256) :: be n x

/-- The number that bytes are, behind a number. -/
def numFrom (a : Int) (zs : List Int) : Int := zs.foldl (fun a d => 256 * a + d) a
def num (zs : List Int) : Int := numFrom 0 zs

def IsByte (z : Int) : Prop := 0 ≤ z ∧ z ≤ 255
def AllBytes (zs : List Int) : Prop := ∀ z ∈ zs, IsByte z

theorem be_length (n : Nat) (x : Int) : (be n x).length = n := by
  induction n with
  | zero => rfl
  | succ n ih => simp [be, ih]
theorem be_bytes (n : Nat) (x : Int) : AllBytes (be n x) := by
  induction n with
  | zero => intro z hz; simp [be] at hz
  | succ n ih =>
    intro z hz
    simp only [be, List.mem_cons] at hz
    rcases hz with rfl | hz
    · unfold IsByte; omega
    · exact ih z hz

theorem numFrom_cons (a z : Int) (zs : List Int) : numFrom a (z :: zs) = numFrom (256 * a + z) zs := rfl
theorem numFrom_append (a : Int) (xs ys : List Int) : numFrom a (xs ++ ys) = numFrom (numFrom a xs) ys := by simp [numFrom]
theorem numFrom_eq (a : Int) (zs : List Int) : numFrom a zs = a * 256 ^ zs.length + num zs := by
  induction zs generalizing a with
  | nil => simp [numFrom, num]
  | cons z zs ih =>
    unfold num
    rw [numFrom_cons, numFrom_cons, ih, ih (256 * 0 + z), List.length_cons, Int.pow_succ]
    generalize (256 : Int) ^ zs.length = q
    rw [Int.add_mul, Int.add_mul, Int.mul_comm 256 a, Int.mul_assoc, Int.mul_comm 256 q]
    simp; omega
theorem pow_pos256 (n : Nat) : 0 < (256 : Int) ^ n := Int.pow_pos (by decide)
theorem pow_mono256 {a b : Nat} (h : a ≤ b) : (256 : Int) ^ a ≤ 256 ^ b := by
  obtain ⟨d, rfl⟩ : ∃ d, b = a + d := ⟨b - a, by omega⟩
  rw [Int.pow_add]
  have h1 := pow_pos256 a
  have h2 := pow_pos256 d
  generalize (256 : Int) ^ a = p at *
  generalize (256 : Int) ^ d = q at *
  have := Int.mul_le_mul_of_nonneg_left (show (1 : Int) ≤ q by omega) (show 0 ≤ p by omega)
  omega
theorem num_bd (zs : List Int) (h : AllBytes zs) : 0 ≤ num zs ∧ num zs < 256 ^ zs.length := by
  induction zs with
  | nil => simp [num, numFrom]
  | cons z zs ih =>
    obtain ⟨h0, h1⟩ := ih (fun y hy => h y (List.mem_cons_of_mem _ hy))
    obtain ⟨b0, b1⟩ := h z (List.mem_cons_self ..)
    have e : num (z :: zs) = z * 256 ^ zs.length + num zs := by
      unfold num; rw [numFrom_cons, numFrom_eq]; simp [num]
    rw [e, List.length_cons, Int.pow_succ]
    have hp := pow_pos256 zs.length
    generalize (256 : Int) ^ zs.length = q at *
    have m0 : 0 ≤ z * q := Int.mul_nonneg b0 (by omega)
    have m1 : z * q ≤ 255 * q := Int.mul_le_mul_of_nonneg_right b1 (by omega)
    omega

theorem be_shift (n k : Nat) (a r : Int) (h : n ≤ k) : be n (a * 256 ^ k + r) = be n r := by
  induction n with
  | zero => rfl
  | succ n ih =>
    simp only [be, ih (by omega)]
    congr 1
    obtain ⟨d, rfl⟩ : ∃ d, k = n + 1 + d := ⟨k - (n + 1), by omega⟩
    have e : a * 256 ^ (n + 1 + d) = a * 256 ^ d * 256 * 256 ^ n := by
      rw [Int.pow_add, Int.pow_succ]
      generalize (256 : Int) ^ n = q
      generalize (256 : Int) ^ d = s
      rw [Int.mul_comm (q * 256) s, ← Int.mul_assoc, Int.mul_comm q 256, ← Int.mul_assoc]
    rw [e, Int.add_comm, Int.add_mul_ediv_right _ _ (Int.ne_of_gt (pow_pos256 n))]
    generalize a * 256 ^ d = t
    omega
theorem be_num (zs : List Int) (h : AllBytes zs) : be zs.length (num zs) = zs := by
  induction zs with
  | nil => rfl
  | cons z zs ih =>
    have h' : AllBytes zs := fun y hy => h y (List.mem_cons_of_mem _ hy)
    obtain ⟨b0, b1⟩ := h z (List.mem_cons_self ..)
    have e : num (z :: zs) = z * 256 ^ zs.length + num zs := by
      unfold num; rw [numFrom_cons, numFrom_eq]; simp [num]
    have ⟨n0, n1⟩ := num_bd zs h'
    rw [e]
    simp only [List.length_cons, be]
    rw [be_shift _ _ _ _ (Nat.le_refl _), ih h']
    congr 1
    rw [Int.add_comm, Int.add_mul_ediv_right _ _ (Int.ne_of_gt (pow_pos256 _)), Int.ediv_eq_zero_of_lt n0 n1]
    omega
theorem num_be (n : Nat) (x : Int) (h0 : 0 ≤ x) (h1 : x < 256 ^ n) : num (be n x) = x := by
  have key : ∀ m : Nat, num (be m x) = x % 256 ^ m := by
    intro m
    induction m with
    | zero => simp [be, num, numFrom, Int.emod_one]
    | succ m ih =>
      have e : num (be (m + 1) x) = x / 256 ^ m % 256 * 256 ^ m + num (be m x) := by
        simp only [be]
        unfold num; rw [numFrom_cons, numFrom_eq, be_length]; simp [num]
      rw [e, ih, Int.pow_succ]
      have hp := pow_pos256 m
      generalize (256 : Int) ^ m = q at *
      rw [Int.emod_def x (q * 256), Int.emod_def (x / q), Int.emod_def x q, Int.ediv_ediv_of_nonneg (by omega)]
      rw [Int.sub_mul, Int.mul_comm (x / q) q, Int.mul_comm (256 : Int), Int.mul_assoc, Int.mul_comm (x / (q * 256)) (256 * q), Int.mul_comm 256 q]
      omega
  rw [key, Int.emod_eq_of_lt h0 h1]

end Go.Proofs.Ytfknefpfekjnnaa
