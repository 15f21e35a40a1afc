/- SlewLooks' walk. -/
import Derived.Test.YtnooneejidpdaaaSt
import Derived.Test.YtnooneejidpdaaaMod
import Derived.Test.YtnooneejidpdaaaOpen
import Derived.Deep.CutBlock
import Derived.Deep.DeepCutAuto
namespace Go.Proofs.Ytnooneejidpdaaa
open Go.RowKit

/-- An element of a slice that came in, in a world that came behind. -/
theorem IntsIn.at_ {k : IntKind} {w wr : World} {A : Option Addr} {len cap t : Nat} (h : IntsIn k w A len cap) (ht : t < len) (hb : Below w.heap.size w wr) :
    ∃ g o z, A = some ⟨g, o, none⟩ ∧ (Lit.int k z).wf = true ∧ wr.cell? ⟨g, o + t, none⟩ = some (.int k z) := by
  obtain ⟨g, o, rfl, hg, hc⟩ := h.2.2 (by omega)
  obtain ⟨z, hz, hcell⟩ := hc t ht
  exact ⟨g, o, z, rfl, hz, (hb.cell (p := ⟨g, o + t, none⟩) hg).trans hcell⟩

/-- A clock with nothing to correct goes as the counter. -/
theorem still_clock {r h c v : Int} (r1 : 1 ≤ r) (v1 : 0 ≤ v) (v2 : h + v ≤ 4611686018427387903) :
    rd (Ck.mk r h c 0 0) (h + v) = c + v ∧ lf (Ck.mk r h c 0 0) (h + v) = 0 ∧ sl (Ck.mk r h c 0 0) (h + v) = 0 ∧ (Ck.mk r h c 0 0).err (h + v) = 0 := by
  have e : h + v - h = v := by omega
  have z := cor_zero v r v1 (by omega)
  refine ⟨?_, ?_, ?_, Ck.err_of (by simp only; omega) v2⟩
  · rw [rd_ok (by simp only; omega) v2]; simp only; rw [e, z]; omega
  · rw [lf_ok (by simp only; omega) v2]; simp only; rw [e, z]; omega
  · rw [sl_ok (by simp only; omega) v2]; simp only; rw [e, z]; omega

set_option maxRecDepth 100000 in
set_option maxHeartbeats 4000000 in
theorem walk_looks (n0 n1 n : Int) (A : Option Addr) (len cap : Nat) (w : World) (u1 : 0 ≤ n) (u2 : n ≤ 65535) (hz : IntsIn .u32 w A len cap) : Calls Try.prog 8 #[.agg #[.int .i64 n0, .int .i64 n1], .int .u16 n, .slice A len cap] w fun e w' => e = .returned (.bool true) ∧ Below w.heap.size w w' := by
  have KR := Lib.hid (fun w => rate_any n w u1 (by omega))
  obtain ⟨r, hr⟩ : ∃ r, r = 1 + n % 500 := ⟨_, rfl⟩
  rw [← hr] at KR
  have r1 : 1 ≤ r := by omega
  have r2 : r ≤ 500 := by omega
  clear hr
  have hlc := hz.1
  have hcm : cap ≤ 9223372036854775807 := by have := hz.2.1; unfold maxLen at this; omega
  have HZ := Lib.hid hz
  clear hz
  go_enter Try.func8, Try.ntmps8
  go_wp2_with fail
  obtain ⟨h1, h2⟩ := hard_bd n0
  obtain ⟨k1, k2⟩ := tmod_bd n1 1152921504606846976 (by omega)
  generalize wrap64 ((IntKind.u64.wrap n0).tmod 2305843009213693952) = h at *
  generalize n1.tmod 1152921504606846976 = c at *
  refine (KR.out _).mono ?_
  rintro e w0 ⟨rfl, rfl⟩
  have f : Fit h c r := ⟨by omega, by omega, by omega, by omega, r1, r2⟩
  have KN := Lib.hid (fun w => new_ex (w := w) f)
  have O := Lib.hid f.ok
  have KL := Lib.hid (fun w => alive_any w)
  clear f
  go_wp2_with fail
  refine (KN.out _).mono ?_
  rintro e w1 ⟨g, rfl, hg, hc1, hw1⟩
  have L1 := Lib.hid (And.intro hc1 (bel_trans ((Below.refl _ _).alloc (Nat.le_refl _) _) hw1))
  clear hg hc1 hw1
  go_wp2_with fail
  refine (KL.out _).mono ?_
  rintro e w2 ⟨rfl, hw2⟩
  have L2 := Lib.hid (And.intro (L1.out.1.below hw2) (bel_trans L1.out.2 hw2))
  clear hw2 L1
  by_cases hn : 100 < len
  · go_wp2_with fail
    refine (KL.out _).mono ?_
    rintro e w3 ⟨rfl, hw3⟩
    have L3 := Lib.hid (bel_trans L2.out.2 hw3)
    clear hw3 L2
    go_wp2
    go_ret
    exact ⟨rfl, L3.out⟩
  · go_wp2_with fail
    go_loopw [54] (fun i wr => ∃ k : Nat, k ≤ len ∧ i = .int .i64 k ∧ Hid (Clk 64 wr g ⟨r, h, c, 0, 0⟩ ∧ Below w.heap.size w wr)) (fun i _ => len - (intOf i).toNat)
    case atStart => exact ⟨0, Nat.zero_le _, rfl, L2⟩
    case round =>
      obtain ⟨k, hk, rfl, L3⟩ := hrel
      by_cases hkN : k < len
      · obtain ⟨g', o, v, rfl, hwf, hcell⟩ := HZ.out.at_ hkN L3.out.2
        obtain ⟨v1, v2⟩ := bounds_u32 hwf
        obtain ⟨q1, q2, q3, q4⟩ := still_clock (r := r) (h := h) (c := c) (v := v) r1 v1 (by omega)
        have K1 := Lib.hid (fun b w hc => read_any b ⟨r, h, c, 0, 0⟩ (h + v) w hc O.out)
        have K2 := Lib.hid (fun b w hc => left_any b ⟨r, h, c, 0, 0⟩ (h + v) w hc O.out)
        have K3 := Lib.hid (fun b w hc => slewed_any b ⟨r, h, c, 0, 0⟩ (h + v) w hc O.out)
        have K4 := Lib.hid (fun b w hc => base_any b ⟨r, h, c, 0, 0⟩ w hc)
        rw [q1, q4] at K1
        rw [q2, q4] at K2
        rw [q3, q4] at K3
        clear q1 q2 q3 q4 hwf
        go_wp2_with fail
        refine (K1.out _ _ L3.out.1).mono ?_
        rintro e x1 ⟨rfl, hw1⟩
        have L4 := Lib.hid (And.intro (L3.out.1.below hw1) (bel_trans L3.out.2 hw1))
        clear hw1 L3 K1
        go_wp2_with fail
        refine (K2.out _ _ L4.out.1).mono ?_
        rintro e x2 ⟨rfl, hw2⟩
        have L5 := Lib.hid (And.intro (L4.out.1.below hw2) (bel_trans L4.out.2 hw2))
        clear hw2 L4 K2
        go_wp2_with fail
        refine (K3.out _ _ L5.out.1).mono ?_
        rintro e x3 ⟨rfl, hw3⟩
        have L6 := Lib.hid (And.intro (L5.out.1.below hw3) (bel_trans L5.out.2 hw3))
        clear hw3 L5 K3
        go_wp2_with fail
        refine (K4.out _ _ L6.out.1).mono ?_
        rintro e x4 ⟨rfl, rfl⟩
        go_wp2
        go_roundw
        case rel => exact ⟨k + 1, by omega, by go_num, L6⟩
        case measure => simp [intOf]; omega
      · go_wp2
        go_ret
        exact ⟨rfl, L3.out.2⟩
end Go.Proofs.Ytnooneejidpdaaa
