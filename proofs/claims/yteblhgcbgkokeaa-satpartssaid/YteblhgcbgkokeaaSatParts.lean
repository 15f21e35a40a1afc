/- For all two numbers of 64 bits and all two of 32 bits the statement SatParts returns true: of two parts of one number that come to all the sum is its own, or 1 less. No condition. -/
import Derived.Test.YteblhgcbgkokeaaRows
import Derived.Test.YteblhgcbgkokeaaMul
import Derived.WalkKit
import Derived.ProofKit
import Derived.OpenShut
namespace Go.Proofs.Yteblhgcbgkokeaa.satParts
open Go.ChangeShapes Go.WideShapes Go.ChangeAt Go.RowKit
set_option linter.unusedVariables false

theorem own : ownKnob Try.prog.godebug = none := by kernel_rfl
theorem cells34 : Try.prog.cellsOf 34 = 1 := by kernel_rfl
theorem cells35 : Try.prog.cellsOf 35 = 2 := by kernel_rfl

/-- A part of a number is between it and 0. -/
theorem part_in (a n c : Int) (h0 : 0 ≤ n) (h1 : n ≤ c) (hc : 0 < c) : min a 0 ≤ a * n / c ∧ a * n / c ≤ max a 0 := by
  refine ⟨(Int.le_ediv_iff_mul_le hc).2 ?_, Int.le_of_lt_add_one ((Int.ediv_lt_iff_lt_mul hc).2 ?_)⟩
  · by_cases h : a < 0
    · rw [show min a 0 = a by omega]
      have := Int.mul_le_mul_of_nonneg_left h1 (show 0 ≤ -a by omega)
      rw [Int.neg_mul, Int.neg_mul] at this
      omega
    · rw [show min a 0 = 0 by omega, Int.zero_mul]
      exact Int.mul_nonneg (by omega) h0
  · by_cases h : a < 0
    · rw [show max a 0 = 0 by omega, Int.zero_add, Int.one_mul]
      have := Int.mul_nonpos_of_nonpos_of_nonneg (show a ≤ 0 by omega) h0
      omega
    · rw [show max a 0 = a by omega, Int.add_mul, Int.one_mul]
      have := Int.mul_le_mul_of_nonneg_left h1 (show 0 ≤ a by omega)
      omega
/-- Two parts that come to all. -/
theorem part_sum (a n c : Int) (hc : 0 < c) : a * n / c + a * (c - n) / c = a ∨ a * n / c + a * (c - n) / c = a - 1 := by
  have e1 := Int.mul_ediv_add_emod (a * n) c
  have l1 := Int.emod_lt_of_pos (a * n) hc
  have g1 := Int.emod_nonneg (a * n) (show c ≠ 0 by omega)
  have e2 := Int.mul_ediv_add_emod (a * (c - n)) c
  have l2 := Int.emod_lt_of_pos (a * (c - n)) hc
  have g2 := Int.emod_nonneg (a * (c - n)) (show c ≠ 0 by omega)
  have e3 : a * (c - n) = a * c - a * n := Int.mul_sub ..
  generalize a * n / c = x at *
  generalize a * (c - n) / c = y at *
  generalize a * n % c = r at *
  generalize a * (c - n) % c = s at *
  have k : c * (a - x - y) = r + s := by rw [Int.mul_sub, Int.mul_sub, Int.mul_comm c a]; omega
  have k1 : 0 ≤ a - x - y := by
    refine Int.not_lt.1 fun h => ?_
    have := Int.mul_le_mul_of_nonneg_left (show a - x - y ≤ -1 by omega) (show 0 ≤ c by omega)
    omega
  have k2 : a - x - y ≤ 1 := by
    refine Int.not_lt.1 fun h => ?_
    have := Int.mul_le_mul_of_nonneg_left (show 2 ≤ a - x - y by omega) (show 0 ≤ c by omega)
    omega
  omega

set_option maxHeartbeats 1000000 in
theorem walk (a0 : Int) (a1 : Int) (p0 p1 : Int) (w0 : (Lit.int .i64 a0).wf = true) (w1 : (Lit.int .i64 a1).wf = true) (w2 : (Lit.int .u32 p0).wf = true) (w3 : (Lit.int .u32 p1).wf = true) (w : World) :
    Calls Try.prog 7 #[.int .i64 a0, .int .i64 a1, .agg #[.int .u32 p0, .int .u32 p1]] w fun e w' => e = .returned (.bool true) ∧ Grown w w' := by
  obtain ⟨b0l, b0u⟩ := bounds_i64 w0
  obtain ⟨b1l, b1u⟩ := bounds_i64 w1
  obtain ⟨b2l, b2u⟩ := bounds_u32 w2
  obtain ⟨b3l, b3u⟩ := bounds_u32 w3
  clear w0 w1 w2 w3
  have HA := Lib.hid alive_any
  obtain ⟨c, ec⟩ : ∃ c, p1 + 1 = c := ⟨_, rfl⟩
  obtain ⟨n, en⟩ : ∃ n, p0 % (c + 1) = n := ⟨_, rfl⟩
  obtain ⟨mn, emn⟩ : ∃ mn, min a0 a1 = mn := ⟨_, rfl⟩
  obtain ⟨mx, emx⟩ : ∃ mx, max a0 a1 = mx := ⟨_, rfl⟩
  obtain ⟨z, ez⟩ : ∃ z, min a0 0 = z := ⟨_, rfl⟩
  obtain ⟨t, et⟩ : ∃ t, max a0 0 = t := ⟨_, rfl⟩
  have hc1 : 1 ≤ c := by omega
  have hc2 : c ≤ 4294967296 := by omega
  have hn0 : 0 ≤ n := by rw [← en]; exact Int.emod_nonneg _ (by omega)
  have hn1 : n ≤ c := by rw [← en]; exact Int.le_of_lt_add_one (Int.emod_lt_of_pos _ (by omega))
  obtain ⟨lo, elo⟩ : ∃ lo, mn * n / c = lo := ⟨_, rfl⟩
  obtain ⟨hi, ehi⟩ : ∃ hi, mx * n / c = hi := ⟨_, rfl⟩
  obtain ⟨x, ex⟩ : ∃ x, a0 * n / c = x := ⟨_, rfl⟩
  obtain ⟨y, ey⟩ : ∃ y, a0 * (c - n) / c = y := ⟨_, rfl⟩
  have hlo := part_in mn n c hn0 hn1 (by omega)
  have hhi := part_in mx n c hn0 hn1 (by omega)
  have hx := part_in a0 n c hn0 hn1 (by omega)
  have hy := part_in a0 (c - n) c (by omega) (by omega) (by omega)
  have hlh : lo ≤ hi := by
    rw [← elo, ← ehi]
    exact Int.ediv_le_ediv (by omega) (Int.mul_le_mul_of_nonneg_right (by omega) hn0)
  have hsum := part_sum a0 n c (by omega)
  rw [elo] at hlo
  rw [ehi] at hhi
  rw [ex, ez, et] at hx
  rw [ey, ez, et] at hy
  rw [ex, ey] at hsum
  have H1 := fun w => muldiv_any mn n c w (by omega) (by omega) hn0 (by omega) hc1 (by omega)
  have H2 := fun w => muldiv_any mx n c w (by omega) (by omega) hn0 (by omega) hc1 (by omega)
  have H3 := fun w => muldiv_any a0 c c w b0l b0u (by omega) (by omega) hc1 (by omega)
  have H4 := fun w => muldiv_any a0 n c w b0l b0u hn0 (by omega) hc1 (by omega)
  have H5 := fun w => muldiv_any a0 (c - n) c w b0l b0u (by omega) (by omega) hc1 (by omega)
  simp only [elo, stp_in (show -9223372036854775808 ≤ lo by omega) (show lo ≤ 9223372036854775807 by omega)] at H1
  simp only [ehi, stp_in (show -9223372036854775808 ≤ hi by omega) (show hi ≤ 9223372036854775807 by omega)] at H2
  simp only [Int.mul_ediv_cancel a0 (show c ≠ 0 by omega), stp_in b0l b0u] at H3
  simp only [ex, stp_in (show -9223372036854775808 ≤ x by omega) (show x ≤ 9223372036854775807 by omega)] at H4
  simp only [ey, stp_in (show -9223372036854775808 ≤ y by omega) (show y ≤ 9223372036854775807 by omega)] at H5
  have K1 := Lib.hid H1
  have K2 := Lib.hid H2
  have K3 := Lib.hid H3
  have K4 := Lib.hid H4
  have K5 := Lib.hid H5
  have hbs : (wrap64 (x + y) == a0) = true ∨ (wrap64 (x + y) == a0) = false ∧ (wrap64 (x + y) == wrap64 (a0 - 1)) = true := by
    rcases hsum with h | h
    · refine Or.inl ?_
      rw [h, IntWalk.wrap64_in _ ⟨b0l, b0u⟩]
      simp
    · by_cases g : wrap64 (x + y) = a0
      · exact Or.inl (by simp [g])
      · exact Or.inr ⟨by simp [g], by rw [h]; simp⟩
  obtain ⟨hx1, hx2⟩ := hx
  clear H1 H2 H3 H4 H5 elo ehi ex ey hlo hhi hy hsum
  go_enter Try.func7, Try.ntmps7
  go_wp2_with fail
  refine (K1.out _).mono ?_
  rintro e w1 ⟨rfl, g1⟩
  go_wp2_with fail
  refine (K2.out _).mono ?_
  rintro e w2 ⟨rfl, g2⟩
  go_wp2_with fail
  refine (K3.out _).mono ?_
  rintro e w3 ⟨rfl, g3⟩
  go_wp2_with fail
  refine (K4.out _).mono ?_
  rintro e w4 ⟨rfl, g4⟩
  go_wp2_with fail
  refine (K5.out _).mono ?_
  rintro e w5 ⟨rfl, g5⟩
  go_wp2_with fail
  refine (HA.out _).mono ?_
  rintro e w6 ⟨rfl, g6⟩
  have g : Grown w w6 := grown_trans ((Grown.refl w).alloc _ _) (grown_trans g1 (grown_trans g2 (grown_trans g3 (grown_trans g4 (grown_trans g5 g6)))))
  have G := Lib.hid g
  clear g g1 g2 g3 g4 g5 g6
  rcases hbs with hb | ⟨hb, hb2⟩
  · go_wp2
    go_ret
    exact ⟨rfl, G.out⟩
  · go_wp2
    go_ret
    exact ⟨rfl, G.out⟩

theorem list2 {α : Type} (l : List α) (h : (⟨l⟩ : Array α).size = 2) : ∃ a b, l = [a, b] := by
  match l, h with
  | [a, b], _ => exact ⟨a, b, rfl⟩

/-- An array of two, read, and put together again. -/
theorem open_two {H : Type} {enc : TypeId × Value → H} {W : World} {base b0 : Nat} {spare : Nat → Bool} {held : Bool} {v : Value} {d : DataW H} {p : List MemPlace}
    (hv : Value.okWide Try.prog W .any b0 35 v) (h : DataW.Trod enc Try.prog W base spare held 35 v d p) :
    ∃ x0 x1 : Int, v = .agg #[.int .u32 x0, .int .u32 x1] ∧ d = .agg [.lit (.int .u32 x0), .lit (.int .u32 x1)] ∧ p = [] ∧ (Lit.int .u32 x0).wf = true ∧ (Lit.int .u32 x1).wf = true := by
  obtain ⟨cs, rfl, hsz, _⟩ : ∃ cs, v = .agg cs ∧ cs.size = Try.prog.cellsOf 35 ∧ Row.okWide Try.prog W .any b0 35 cs := by
    simpa [Value.okWide, Try.underlying35] using hv
  rw [cells35] at hsz
  obtain ⟨l⟩ := cs
  obtain ⟨c0, c1, rfl⟩ := list2 l hsz
  obtain ⟨fuel, hf⟩ := h
  obtain ⟨xs, m, _, hx, _, hl, hi⟩ := DataW.trod_array Try.underlying35 hf
  obtain ⟨y0, y1, rfl⟩ : ∃ y0 y1, xs = [y0, y1] := by
    match xs, hl with
    | [a, b], _ => exact ⟨a, b, rfl⟩
  have h0 := hi 0 (by omega)
  have h1 := hi 1 (by omega)
  simp only [cells34, Value.cells] at h0 h1
  simp at h0 h1
  obtain ⟨x0, e0, rfl, w0⟩ := DataW.trod_int Try.underlying34 h0
  obtain ⟨x1, e1, rfl, w1⟩ := DataW.trod_int Try.underlying34 h1
  simp at e0 e1
  subst e0 e1
  simp only [Prod.mk.injEq] at hx
  obtain ⟨rfl, rfl⟩ := hx
  exact ⟨x0, x1, rfl, rfl, rfl, w0, w1⟩
theorem shut_two {H : Type} {enc : TypeId × Value → H} {W : World} {base : Nat} {spare : Nat → Bool} {held : Bool} {x0 x1 : Int} (w0 : (Lit.int .u32 x0).wf = true) (w1 : (Lit.int .u32 x1).wf = true) :
    DataW.Trod enc Try.prog W base spare held 35 (.agg #[.int .u32 x0, .int .u32 x1]) (.agg [.lit (.int .u32 x0), .lit (.int .u32 x1)]) [] := by
  refine ⟨2, ?_⟩
  have r2 : List.range 2 = [0, 1] := rfl
  simp [DataW.trod, Value.cells, Try.underlying35, Try.underlying34, cells34, cells35, r2, w0, w1]

set_option maxRecDepth 100000 in
theorem lifted (os : Os) (started : os.Started) (H : Type) (enc : TypeId × Value → H) :
    ReturnsInHanded {} Try.checked os 7 .any (Rows.satPartsSpec.pre6 enc Try.prog Try.f7 Rows.satPartsRow.domain false) (Rows.satPartsSpec.post enc Try.prog Try.f7 false true false false) := by
  refine returnsInHanded_of_change (C := Try.checked) own started (by kernel_rfl) Try.func7
    (ChangeSpec.witness6 (enc := enc) (C := Try.checked) false ⟨#[], #[.int .i64 0, .int .i64 0, .agg #[.int .u32 0, .int .u32 0]], []⟩ 8 (by kernel_rfl) (by kernel_rfl) (by kernel_rfl) (by kernel_rfl)) ?_
  intro W base args ds gs before hval0 hW hcnd _
  have hval : ∀ (j : Nat) t v, Try.f7.params[j]? = some t → args[j]? = some v → Value.okWide Try.prog W .any base t v := hval0
  have hW' := hW
  obtain ⟨p, q, hA0, hV, rfl, hfz, hnd⟩ := hW
  have hA : DataW.TrodAll enc Try.prog W 0 (fun _ => true) true Try.f7.params.toList args.toList ds p := hA0
  rw [Try.params7] at hA hval
  obtain ⟨v0, vs0, d0, ds0, p0, q0, hargs, rfl, rfl, h0, r0⟩ := trodAll_cons hA
  obtain ⟨v1, vs1, d1, ds1, p1, q1, rfl, rfl, rfl, h1, r1⟩ := trodAll_cons r0
  obtain ⟨v2, vs2, d2, ds2, p2, q2, rfl, rfl, rfl, h2, r2⟩ := trodAll_cons r1
  obtain ⟨rfl, rfl, rfl⟩ := trodAll_nil r2
  obtain rfl : args = #[v0, v1, v2] := by cases args; simp_all
  obtain ⟨rfl, rfl⟩ := trodVars_none hV
  obtain ⟨a0, rfl, rfl, rfl, w0⟩ := open_int Try.underlying2 (hval 0 2 v0 rfl rfl) h0
  obtain ⟨a1, rfl, rfl, rfl, w1⟩ := open_int Try.underlying2 (hval 1 2 v1 rfl rfl) h1
  obtain ⟨x0, x1, rfl, rfl, rfl, w2, w3⟩ := open_two (hval 2 35 v2 rfl rfl) h2
  clear hA0 hval0
  simp only [List.append_nil] at hW'
  refine (walk a0 a1 x0 x1 w0 w1 w2 w3 W).mono fun e W' ⟨he, hg⟩ => ?_
  subst he
  exact ⟨_, rfl, post_of_same (pa := []) (pv := []) hW' (fun _ _ _ => (trodAll_cons_mk (shut_bool Try.underlying4 _) trodAll_mk0)) (fun sp _ => (trodAll_cons_mk (shut_int Try.underlying2 w0) (trodAll_cons_mk (shut_int Try.underlying2 w1) (trodAll_cons_mk (shut_two w2 w3) trodAll_mk0)))) (fun _ _ => rfl) rfl
    (hg.frame _) hg.2.1 (ok_one (by kernel_rfl) rfl (okWide_bool_mk Try.underlying4 _))⟩

theorem over : Rows.satPartsRow.holds Try.pinned (OpenSpec.ofChange Rows.satPartsSpec) :=
  OpenClaim.holds_of_wide 7 Try.f7 rfl rfl rfl rfl rfl rfl rfl ⟨rfl, rfl, rfl, rfl, rfl⟩ rfl rfl rfl rfl rfl (by kernel_rfl) Try.func7 (by kernel_rfl)
    (of_decide_eq_true (by kernel_rfl)) (by unfold Func.isWrapper; first | (rw [if_pos (by decide +kernel)]; kernel_rfl) | (rw [if_neg (by decide +kernel)]; exact ⟨rfl, rfl⟩))
    (fun os started H enc _ => lifted os started H enc)

theorem proved : Rows.SatPartsSaid :=
  over
#print axioms proved
end Go.Proofs.Yteblhgcbgkokeaa.satParts
