/- A packet with one part turned: which of its bytes are others. Plain mathematics. -/
import Derived.Test.YtjlaoncideclnaaBack
namespace Go.Proofs.Ytjlaoncideclnaa
open Go.RowKit

theorem xor_u8 (n : Int) (h0 : 0 ≤ n) (h1 : n ≤ 255) : bits .xor .u8 IntKind.u8.max n = 255 - n := by
  show IntKind.u8.wrap ((BitVec.ofInt 8 IntKind.u8.max ^^^ BitVec.ofInt 8 n).toNat : Int) = _
  rw [show BitVec.ofInt 8 IntKind.u8.max = BitVec.allOnes 8 by decide, BitVec.allOnes_xor, BitVec.toNat_not, BitVec.toNat_ofInt, IntKind.wrap_u8]
  omega
theorem xor_u32 (n : Int) (h0 : 0 ≤ n) (h1 : n ≤ 4294967295) : bits .xor .u32 IntKind.u32.max n = 4294967295 - n := by
  show IntKind.u32.wrap ((BitVec.ofInt 32 IntKind.u32.max ^^^ BitVec.ofInt 32 n).toNat : Int) = _
  rw [show BitVec.ofInt 32 IntKind.u32.max = BitVec.allOnes 32 by decide, BitVec.allOnes_xor, BitVec.toNat_not, BitVec.toNat_ofInt, IntKind.wrap_u32]
  omega
theorem xor_u64 (n : Int) (h0 : 0 ≤ n) (h1 : n ≤ 18446744073709551615) : bits .xor .u64 IntKind.u64.max n = 18446744073709551615 - n := by
  show IntKind.u64.wrap ((BitVec.ofInt 64 IntKind.u64.max ^^^ BitVec.ofInt 64 n).toNat : Int) = _
  rw [show BitVec.ofInt 64 IntKind.u64.max = BitVec.allOnes 64 by decide, BitVec.allOnes_xor, BitVec.toNat_not, BitVec.toNat_ofInt, IntKind.wrap_u64]
  omega
theorem xor_i8 (n : Int) (h0 : -128 ≤ n) (h1 : n ≤ 127) : bits .xor .i8 (-1) n = -1 - n := by
  show IntKind.i8.wrap ((BitVec.ofInt 8 (-1) ^^^ BitVec.ofInt 8 n).toNat : Int) = _
  rw [show BitVec.ofInt 8 (-1) = BitVec.allOnes 8 by decide, BitVec.allOnes_xor, BitVec.toNat_not, BitVec.toNat_ofInt, wrap_i8]
  omega
theorem xor_one (n : Int) (h0 : 0 ≤ n) (h1 : n ≤ 7) : bits .xor .u8 n 1 = n + 1 - 2 * (n % 2) := by
  have : n = 0 ∨ n = 1 ∨ n = 2 ∨ n = 3 ∨ n = 4 ∨ n = 5 ∨ n = 6 ∨ n = 7 := by omega
  rcases this with rfl | rfl | rfl | rfl | rfl | rfl | rfl | rfl <;> decide

theorem mid (A C X Y : List Int) (h : X.length = Y.length) (hd : ∀ i, i < X.length → X.getD i 0 ≠ Y.getD i 0) (i : Nat) :
    ((A ++ (X ++ C)).getD i 0 ≠ (A ++ (Y ++ C)).getD i 0) ↔ (A.length ≤ i ∧ i < A.length + X.length) := by
  simp only [List.getD]
  rcases Nat.lt_or_ge i A.length with h1 | h1
  · rw [List.getElem?_append_left h1, List.getElem?_append_left h1]
    simp; omega
  · rw [List.getElem?_append_right h1, List.getElem?_append_right h1]
    rcases Nat.lt_or_ge (i - A.length) X.length with h2 | h2
    · rw [List.getElem?_append_left h2, List.getElem?_append_left (by omega)]
      have := hd _ h2
      simp only [List.getD] at this
      exact ⟨fun _ => by omega, fun _ => this⟩
    · rw [List.getElem?_append_right h2, List.getElem?_append_right (by omega), h]
      simp; omega

theorem neg_div (x q : Int) (hq : 0 < q) : (-1 - x) / q = -1 - x / q := by
  have h1 := Int.mul_ediv_add_emod x q
  have h2 := Int.emod_nonneg x (show q ≠ 0 by omega)
  have h3 := Int.emod_lt_of_pos x hq
  have e : -1 - x = (q - 1 - x % q) + (-1 - x / q) * q := by
    have : (-1 - x / q) * q = -q - q * (x / q) := by rw [Int.sub_mul, Int.mul_comm (x / q) q]; omega
    omega
  rw [e, Int.add_mul_ediv_right _ _ (by omega), Int.ediv_eq_zero_of_lt (by omega) (by omega)]
  omega
theorem be_other (n m : Nat) (x : Int) (h : n ≤ m) : ∀ i, i < n → (be n x).getD i 0 ≠ (be n (256 ^ m - 1 - x)).getD i 0 := by
  induction n with
  | zero => intro i hi; omega
  | succ n ih =>
    intro i hi
    cases i with
    | succ i => exact ih (by omega) i (by omega)
    | zero =>
      show x / 256 ^ n % 256 ≠ (256 ^ m - 1 - x) / 256 ^ n % 256
      obtain ⟨d, rfl⟩ : ∃ d, m = n + 1 + d := ⟨m - (n + 1), by omega⟩
      have hp := pow_pos256 n
      have e : (256 : Int) ^ (n + 1 + d) - 1 - x = (-1 - x) + (256 * 256 ^ d) * 256 ^ n := by
        rw [Int.pow_add, Int.pow_succ]
        generalize (256 : Int) ^ n = q
        generalize (256 : Int) ^ d = s
        rw [Int.mul_comm (q * 256) s, Int.mul_comm q 256, ← Int.mul_assoc, Int.mul_comm s 256]
        omega
      rw [e, Int.add_mul_ediv_right _ _ (by omega), neg_div x _ hp]
      generalize x / 256 ^ n = y
      generalize (256 : Int) ^ d = s
      omega
theorem be4_other (x : Int) : ∀ i, i < (be 4 x).length → (be 4 x).getD i 0 ≠ (be 4 (4294967295 - x)).getD i 0 := by
  have := be_other 4 4 x (Nat.le_refl _)
  rw [show (256 : Int) ^ 4 - 1 = 4294967295 by decide] at this
  simpa [be_length] using this
theorem be8_other (x : Int) : ∀ i, i < (be 8 x).length → (be 8 x).getD i 0 ≠ (be 8 (18446744073709551615 - x)).getD i 0 := by
  have := be_other 8 8 x (Nat.le_refl _)
  rw [show (256 : Int) ^ 8 - 1 = 18446744073709551615 by decide] at this
  simpa [be_length] using this
theorem one_other {a b : Int} (h : a ≠ b) : ∀ i, i < [a].length → [a].getD i 0 ≠ [b].getD i 0 := by
  intro i hi
  have : i = 0 := by simpa using hi
  subst this
  exact h

/-- A packet of which one part is turned: these bytes alone are others. -/
structure Turned (p q : Pk) (f t : Nat) : Prop where
  inn : q.In
  fits : q.Fits
  t48 : t ≤ 48
  at_ : ∀ i, ((p.bytes.getD i 0 ≠ q.bytes.getD i 0) ↔ (f ≤ i ∧ i < t))

theorem turned_of {p q : Pk} (f t : Nat) (A C X Y : List Int) (hi : q.In) (hf : q.Fits) (ep : p.bytes = A ++ (X ++ C)) (eq : q.bytes = A ++ (Y ++ C)) (hl : X.length = Y.length) (hd : ∀ i, i < X.length → X.getD i 0 ≠ Y.getD i 0)
    (ef : A.length = f) (et : f + X.length = t) (h48 : t ≤ 48) : Turned p q f t := by
  refine ⟨hi, hf, h48, fun i => ?_⟩
  rw [ep, eq, mid A C X Y hl hd i, ef, et]

theorem turned_l (p : Pk) (hp : p.In) (hf : p.Fits) : Turned p { p with l := bits .xor .u8 p.l 1 } 0 1 := by
  have h0 := hp.l0; have h1 := hp.l1; have h2 := hf.l
  rw [xor_one p.l hp.l0 (by have := hf.l; omega)]
  refine turned_of 0 1 [] ([p.s] ++ ([p.po % 256] ++ ([p.pr % 256] ++ (be 4 p.de ++ (be 4 p.di ++ (be 4 p.rs ++ (be 8 p.rf ++ (be 8 p.og ++ (be 8 p.rc ++ be 8 p.xm))))))))) ([p.l * 64 + p.v * 8 + p.m]) ([(p.l + 1 - 2 * (p.l % 2)) * 64 + p.v * 8 + p.m]) ⟨(by show _ ≤ _; simp only []; omega), (by show _ ≤ _; simp only []; omega), hp.v0, hp.v1, hp.m0, hp.m1, hp.s0, hp.s1, hp.po0, hp.po1, hp.pr0, hp.pr1, hp.de0, hp.de1, hp.di0, hp.di1, hp.rs0, hp.rs1, hp.rf0, hp.rf1, hp.og0, hp.og1, hp.rc0, hp.rc1, hp.xm0, hp.xm1⟩ ⟨(by show _ ≤ _; simp only []; omega), hf.v, hf.m⟩ (by simp [Pk.bytes]) (by simp [Pk.bytes]) rfl (one_other (by omega)) (by simp) (by simp) (by decide)
theorem turned_v (p : Pk) (hp : p.In) (hf : p.Fits) : Turned p { p with v := bits .xor .u8 p.v 1 } 0 1 := by
  have h0 := hp.v0; have h1 := hp.v1; have h2 := hf.v
  rw [xor_one p.v hp.v0 (by have := hf.v; omega)]
  refine turned_of 0 1 [] ([p.s] ++ ([p.po % 256] ++ ([p.pr % 256] ++ (be 4 p.de ++ (be 4 p.di ++ (be 4 p.rs ++ (be 8 p.rf ++ (be 8 p.og ++ (be 8 p.rc ++ be 8 p.xm))))))))) ([p.l * 64 + p.v * 8 + p.m]) ([p.l * 64 + (p.v + 1 - 2 * (p.v % 2)) * 8 + p.m]) ⟨hp.l0, hp.l1, (by show _ ≤ _; simp only []; omega), (by show _ ≤ _; simp only []; omega), hp.m0, hp.m1, hp.s0, hp.s1, hp.po0, hp.po1, hp.pr0, hp.pr1, hp.de0, hp.de1, hp.di0, hp.di1, hp.rs0, hp.rs1, hp.rf0, hp.rf1, hp.og0, hp.og1, hp.rc0, hp.rc1, hp.xm0, hp.xm1⟩ ⟨hf.l, (by show _ ≤ _; simp only []; omega), hf.m⟩ (by simp [Pk.bytes]) (by simp [Pk.bytes]) rfl (one_other (by omega)) (by simp) (by simp) (by decide)
theorem turned_m (p : Pk) (hp : p.In) (hf : p.Fits) : Turned p { p with m := bits .xor .u8 p.m 1 } 0 1 := by
  have h0 := hp.m0; have h1 := hp.m1; have h2 := hf.m
  rw [xor_one p.m hp.m0 (by have := hf.m; omega)]
  refine turned_of 0 1 [] ([p.s] ++ ([p.po % 256] ++ ([p.pr % 256] ++ (be 4 p.de ++ (be 4 p.di ++ (be 4 p.rs ++ (be 8 p.rf ++ (be 8 p.og ++ (be 8 p.rc ++ be 8 p.xm))))))))) ([p.l * 64 + p.v * 8 + p.m]) ([p.l * 64 + p.v * 8 + (p.m + 1 - 2 * (p.m % 2))]) ⟨hp.l0, hp.l1, hp.v0, hp.v1, (by show _ ≤ _; simp only []; omega), (by show _ ≤ _; simp only []; omega), hp.s0, hp.s1, hp.po0, hp.po1, hp.pr0, hp.pr1, hp.de0, hp.de1, hp.di0, hp.di1, hp.rs0, hp.rs1, hp.rf0, hp.rf1, hp.og0, hp.og1, hp.rc0, hp.rc1, hp.xm0, hp.xm1⟩ ⟨hf.l, hf.v, (by show _ ≤ _; simp only []; omega)⟩ (by simp [Pk.bytes]) (by simp [Pk.bytes]) rfl (one_other (by omega)) (by simp) (by simp) (by decide)
theorem turned_s (p : Pk) (hp : p.In) (hf : p.Fits) : Turned p { p with s := bits .xor .u8 IntKind.u8.max p.s } 1 2 := by
  have h0 := hp.s0; have h1 := hp.s1
  rw [xor_u8 p.s hp.s0 hp.s1]
  refine turned_of 1 2 [p.l * 64 + p.v * 8 + p.m] ([p.po % 256] ++ ([p.pr % 256] ++ (be 4 p.de ++ (be 4 p.di ++ (be 4 p.rs ++ (be 8 p.rf ++ (be 8 p.og ++ (be 8 p.rc ++ be 8 p.xm)))))))) ([p.s]) ([(255 - p.s)]) ⟨hp.l0, hp.l1, hp.v0, hp.v1, hp.m0, hp.m1, (by show _ ≤ _; simp only []; omega), (by show _ ≤ _; simp only []; omega), hp.po0, hp.po1, hp.pr0, hp.pr1, hp.de0, hp.de1, hp.di0, hp.di1, hp.rs0, hp.rs1, hp.rf0, hp.rf1, hp.og0, hp.og1, hp.rc0, hp.rc1, hp.xm0, hp.xm1⟩ ⟨hf.l, hf.v, hf.m⟩ (by simp [Pk.bytes]) (by simp [Pk.bytes]) rfl (one_other (by omega)) (by simp) (by simp) (by decide)
theorem turned_po (p : Pk) (hp : p.In) (hf : p.Fits) : Turned p { p with po := bits .xor .i8 (-1) p.po } 2 3 := by
  have h0 := hp.po0; have h1 := hp.po1
  rw [xor_i8 p.po hp.po0 hp.po1]
  refine turned_of 2 3 ([p.l * 64 + p.v * 8 + p.m] ++ [p.s]) ([p.pr % 256] ++ (be 4 p.de ++ (be 4 p.di ++ (be 4 p.rs ++ (be 8 p.rf ++ (be 8 p.og ++ (be 8 p.rc ++ be 8 p.xm))))))) ([p.po % 256]) ([(-1 - p.po) % 256]) ⟨hp.l0, hp.l1, hp.v0, hp.v1, hp.m0, hp.m1, hp.s0, hp.s1, (by show _ ≤ _; simp only []; omega), (by show _ ≤ _; simp only []; omega), hp.pr0, hp.pr1, hp.de0, hp.de1, hp.di0, hp.di1, hp.rs0, hp.rs1, hp.rf0, hp.rf1, hp.og0, hp.og1, hp.rc0, hp.rc1, hp.xm0, hp.xm1⟩ ⟨hf.l, hf.v, hf.m⟩ (by simp [Pk.bytes]) (by simp [Pk.bytes]) rfl (one_other (by omega)) (by simp) (by simp) (by decide)
theorem turned_pr (p : Pk) (hp : p.In) (hf : p.Fits) : Turned p { p with pr := bits .xor .i8 (-1) p.pr } 3 4 := by
  have h0 := hp.pr0; have h1 := hp.pr1
  rw [xor_i8 p.pr hp.pr0 hp.pr1]
  refine turned_of 3 4 ([p.l * 64 + p.v * 8 + p.m] ++ ([p.s] ++ [p.po % 256])) (be 4 p.de ++ (be 4 p.di ++ (be 4 p.rs ++ (be 8 p.rf ++ (be 8 p.og ++ (be 8 p.rc ++ be 8 p.xm)))))) ([p.pr % 256]) ([(-1 - p.pr) % 256]) ⟨hp.l0, hp.l1, hp.v0, hp.v1, hp.m0, hp.m1, hp.s0, hp.s1, hp.po0, hp.po1, (by show _ ≤ _; simp only []; omega), (by show _ ≤ _; simp only []; omega), hp.de0, hp.de1, hp.di0, hp.di1, hp.rs0, hp.rs1, hp.rf0, hp.rf1, hp.og0, hp.og1, hp.rc0, hp.rc1, hp.xm0, hp.xm1⟩ ⟨hf.l, hf.v, hf.m⟩ (by simp [Pk.bytes]) (by simp [Pk.bytes]) rfl (one_other (by omega)) (by simp) (by simp) (by decide)
theorem turned_de (p : Pk) (hp : p.In) (hf : p.Fits) : Turned p { p with de := bits .xor .u32 IntKind.u32.max p.de } 4 8 := by
  have h0 := hp.de0; have h1 := hp.de1
  rw [xor_u32 p.de hp.de0 hp.de1]
  refine turned_of 4 8 ([p.l * 64 + p.v * 8 + p.m] ++ ([p.s] ++ ([p.po % 256] ++ [p.pr % 256]))) (be 4 p.di ++ (be 4 p.rs ++ (be 8 p.rf ++ (be 8 p.og ++ (be 8 p.rc ++ be 8 p.xm))))) (be 4 p.de) (be 4 (4294967295 - p.de)) ⟨hp.l0, hp.l1, hp.v0, hp.v1, hp.m0, hp.m1, hp.s0, hp.s1, hp.po0, hp.po1, hp.pr0, hp.pr1, (by show _ ≤ _; simp only []; omega), (by show _ ≤ _; simp only []; omega), hp.di0, hp.di1, hp.rs0, hp.rs1, hp.rf0, hp.rf1, hp.og0, hp.og1, hp.rc0, hp.rc1, hp.xm0, hp.xm1⟩ ⟨hf.l, hf.v, hf.m⟩ (by simp [Pk.bytes]) (by simp [Pk.bytes]) (by simp [be_length]) (be4_other p.de) (by simp) (by simp [be_length]) (by decide)
theorem turned_di (p : Pk) (hp : p.In) (hf : p.Fits) : Turned p { p with di := bits .xor .u32 IntKind.u32.max p.di } 8 12 := by
  have h0 := hp.di0; have h1 := hp.di1
  rw [xor_u32 p.di hp.di0 hp.di1]
  refine turned_of 8 12 ([p.l * 64 + p.v * 8 + p.m] ++ ([p.s] ++ ([p.po % 256] ++ ([p.pr % 256] ++ be 4 p.de)))) (be 4 p.rs ++ (be 8 p.rf ++ (be 8 p.og ++ (be 8 p.rc ++ be 8 p.xm)))) (be 4 p.di) (be 4 (4294967295 - p.di)) ⟨hp.l0, hp.l1, hp.v0, hp.v1, hp.m0, hp.m1, hp.s0, hp.s1, hp.po0, hp.po1, hp.pr0, hp.pr1, hp.de0, hp.de1, (by show _ ≤ _; simp only []; omega), (by show _ ≤ _; simp only []; omega), hp.rs0, hp.rs1, hp.rf0, hp.rf1, hp.og0, hp.og1, hp.rc0, hp.rc1, hp.xm0, hp.xm1⟩ ⟨hf.l, hf.v, hf.m⟩ (by simp [Pk.bytes]) (by simp [Pk.bytes]) (by simp [be_length]) (be4_other p.di) (by simp [be_length]) (by simp [be_length]) (by decide)
theorem turned_rs (p : Pk) (hp : p.In) (hf : p.Fits) : Turned p { p with rs := bits .xor .u32 IntKind.u32.max p.rs } 12 16 := by
  have h0 := hp.rs0; have h1 := hp.rs1
  rw [xor_u32 p.rs hp.rs0 hp.rs1]
  refine turned_of 12 16 ([p.l * 64 + p.v * 8 + p.m] ++ ([p.s] ++ ([p.po % 256] ++ ([p.pr % 256] ++ (be 4 p.de ++ be 4 p.di))))) (be 8 p.rf ++ (be 8 p.og ++ (be 8 p.rc ++ be 8 p.xm))) (be 4 p.rs) (be 4 (4294967295 - p.rs)) ⟨hp.l0, hp.l1, hp.v0, hp.v1, hp.m0, hp.m1, hp.s0, hp.s1, hp.po0, hp.po1, hp.pr0, hp.pr1, hp.de0, hp.de1, hp.di0, hp.di1, (by show _ ≤ _; simp only []; omega), (by show _ ≤ _; simp only []; omega), hp.rf0, hp.rf1, hp.og0, hp.og1, hp.rc0, hp.rc1, hp.xm0, hp.xm1⟩ ⟨hf.l, hf.v, hf.m⟩ (by simp [Pk.bytes]) (by simp [Pk.bytes]) (by simp [be_length]) (be4_other p.rs) (by simp [be_length]) (by simp [be_length]) (by decide)
theorem turned_og (p : Pk) (hp : p.In) (hf : p.Fits) : Turned p { p with og := bits .xor .u64 IntKind.u64.max p.og } 24 32 := by
  have h0 := hp.og0; have h1 := hp.og1
  rw [xor_u64 p.og hp.og0 hp.og1]
  refine turned_of 24 32 ([p.l * 64 + p.v * 8 + p.m] ++ ([p.s] ++ ([p.po % 256] ++ ([p.pr % 256] ++ (be 4 p.de ++ (be 4 p.di ++ (be 4 p.rs ++ be 8 p.rf))))))) (be 8 p.rc ++ be 8 p.xm) (be 8 p.og) (be 8 (18446744073709551615 - p.og)) ⟨hp.l0, hp.l1, hp.v0, hp.v1, hp.m0, hp.m1, hp.s0, hp.s1, hp.po0, hp.po1, hp.pr0, hp.pr1, hp.de0, hp.de1, hp.di0, hp.di1, hp.rs0, hp.rs1, hp.rf0, hp.rf1, (by show _ ≤ _; simp only []; omega), (by show _ ≤ _; simp only []; omega), hp.rc0, hp.rc1, hp.xm0, hp.xm1⟩ ⟨hf.l, hf.v, hf.m⟩ (by simp [Pk.bytes]) (by simp [Pk.bytes]) (by simp [be_length]) (be8_other p.og) (by simp [be_length]) (by simp [be_length]) (by decide)
theorem turned_xm (p : Pk) (hp : p.In) (hf : p.Fits) : Turned p { p with xm := bits .xor .u64 IntKind.u64.max p.xm } 40 48 := by
  have h0 := hp.xm0; have h1 := hp.xm1
  rw [xor_u64 p.xm hp.xm0 hp.xm1]
  refine turned_of 40 48 ([p.l * 64 + p.v * 8 + p.m] ++ ([p.s] ++ ([p.po % 256] ++ ([p.pr % 256] ++ (be 4 p.de ++ (be 4 p.di ++ (be 4 p.rs ++ (be 8 p.rf ++ (be 8 p.og ++ be 8 p.rc))))))))) [] (be 8 p.xm) (be 8 (18446744073709551615 - p.xm)) ⟨hp.l0, hp.l1, hp.v0, hp.v1, hp.m0, hp.m1, hp.s0, hp.s1, hp.po0, hp.po1, hp.pr0, hp.pr1, hp.de0, hp.de1, hp.di0, hp.di1, hp.rs0, hp.rs1, hp.rf0, hp.rf1, hp.og0, hp.og1, hp.rc0, hp.rc1, (by show _ ≤ _; simp only []; omega), (by show _ ≤ _; simp only []; omega)⟩ ⟨hf.l, hf.v, hf.m⟩ (by simp [Pk.bytes]) (by simp [Pk.bytes]) (by simp [be_length]) (be8_other p.xm) (by simp [be_length]) (by simp [be_length]) (by decide)

end Go.Proofs.Ytjlaoncideclnaa
