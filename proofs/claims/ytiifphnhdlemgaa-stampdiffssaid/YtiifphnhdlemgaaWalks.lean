/- The calls of package stamp and of the document's answers, each by its number, on whole numbers: what each returns. -/
import Derived.Test.YtiifphnhdlemgaaRows
import Derived.Test.YtiifphnhdlemgaaNum
import Derived.WalkKit
import Derived.WalkSpells
import Derived.Laws.BitsLemmas
import Derived.Lib.Hide
import Derived.Deep.RegionWith
namespace Go.Proofs.Ytiifphnhdlemgaa
open Go.RowKit

theorem ret_int {k : IntKind} {a b : Int} (h : a = b) : Ending.returned (.int k a) = .returned (.int k b) := by rw [h]
theorem grown_trans {a b c : World} (h : Grown a b) (g : Grown b c) : Grown a c :=
  ⟨World.keptBut_trans h.1 g.1, fun x => (g.2.1 x).trans (h.2.1 x), Nat.le_trans h.2.2 g.2.2⟩

theorem grown_cell {w w' : World} (h : Grown w w') {a : Addr} {v : Value} (hc : w.cell? a = some v) : w'.cell? a = some v := by
  obtain ⟨⟨_, _, hk⟩, _, _⟩ := h
  unfold World.cell? at hc ⊢
  cases e : w.heap[a.block]? with
  | none => rw [e] at hc; simp at hc
  | some o =>
    have hb : a.block < w.heap.size := by
      rcases Nat.lt_or_ge a.block w.heap.size with h | h
      · exact h
      · rw [Array.getElem?_eq_none h] at e; simp at e
    have k := hk a.block hb
    rw [e] at k hc
    cases o with
    | cells c t fr =>
      cases e' : w'.heap[a.block]? with
      | none => rw [e'] at k; simp at k
      | some o' =>
        rw [e'] at k
        cases o' with
        | cells c' t' fr' =>
          obtain ⟨_, _, _, hj⟩ := k
          have := hj a.off (fun f => f)
          simp only [this]; exact hc
        | _ => simp at k
    | _ => simp at hc

theorem stamp_any (x y : Int) (w : World) (h1 : 0 ≤ x) (h2 : x ≤ 4294967295) (h3 : 0 ≤ y) (h4 : y ≤ 4294967295) :
    Calls Try.prog 20 #[.agg #[.int .u32 x, .int .u32 y]] w fun e w' => e = .returned (.int .u64 (x * 4294967296 + y)) ∧ Grown w w' := by
  go_enter Try.func20, Try.ntmps20
  go_wp2
  go_ret
  refine ⟨ret_int ?_, (Grown.refl _).alloc _ _⟩
  exact bits_join .u64 64 (by decide) (by intro n _ _; simp only [IntKind.wrap_u64]; omega) 32 _ _ (by omega) (by omega) (by omega) (by omega) (by omega) (by omega)

theorem halves_any (s : Int) (w : World) (h1 : 0 ≤ s) (h2 : s ≤ 18446744073709551615) :
    Calls Try.prog 21 #[.int .u64 s] w fun e w' => e = .returned (.agg #[.int .u32 (s / 4294967296), .int .u32 (s % 4294967296)]) ∧ Grown w w' := by
  go_enter Try.func21, Try.ntmps21
  go_wp2
  refine bodyPost_ret (v := .agg #[.int .u32 (s / 4294967296), .int .u32 (s % 4294967296)]) (by simp [results, Try.results21, go_sem]) rfl ⟨rfl, (Grown.refl _).alloc _ _⟩

theorem floor_any (x y : Int) (w : World) (h1 : 0 ≤ x) (h2 : x ≤ 4294967295) (h3 : 0 ≤ y) (h4 : y ≤ 4294967295) :
    Calls Try.prog 22 #[.agg #[.int .u32 x, .int .u32 y]] w fun e w' => e = .returned (.int .i64 (nsf (x * 4294967296 + y))) ∧ Grown w w' := by
  go_enter Try.func22, Try.ntmps22
  go_wp2
  go_ret
  exact ⟨ret_int (nsf_halves x y), (Grown.refl _).alloc _ _⟩

theorem from_any (n : Int) (w : World) (h1 : -9223372036854775808 ≤ n) (h2 : n ≤ 9223372036854775807) :
    Calls Try.prog 11 #[.int .i64 n] w fun e w' => e = .returned (.int .u64 (frm n)) ∧ Grown w w' := by
  obtain ⟨q, r, eq, er, en, r1, r2, q1, q2⟩ := parts_sec n h1 h2
  by_cases hr : r < 0
  · have E := Lib.hid (frm_halves n (q - 1) (r + 1000000000) (by omega) (by omega) (by omega))
    have HS := Lib.hid (fun w => stamp_any ((q - 1) % 4294967296) ((r + 1000000000) * 4294967296 / 1000000000) w (by omega) (by omega) (by omega) (by omega))
    clear en
    go_enter Try.func11, Try.ntmps11
    go_wp2_with fail
    refine (HS.out _).mono ?_
    rintro e w1 ⟨rfl, hg⟩
    go_wp2
    go_ret
    exact ⟨ret_int E.out.symm, hg⟩
  · have E := Lib.hid (frm_halves n q r (by omega) (by omega) (by omega))
    have HS := Lib.hid (fun w => stamp_any (q % 4294967296) (r * 4294967296 / 1000000000) w (by omega) (by omega) (by omega) (by omega))
    clear en
    go_enter Try.func11, Try.ntmps11
    go_wp2_with fail
    refine (HS.out _).mono ?_
    rintro e w1 ⟨rfl, hg⟩
    go_wp2
    go_ret
    exact ⟨ret_int E.out.symm, hg⟩

theorem rfrom_any (n : Int) (w : World) (h1 : -9223372036854775808 ≤ n) (h2 : n ≤ 9223372036854775807) :
    Calls Try.prog 12 #[.int .i64 n] w fun e w' => e = .returned (.int .u64 (frm n)) ∧ w = w' := by
  obtain ⟨q, r, eq, er, en, r1, r2, q1, q2⟩ := parts_sec n h1 h2
  by_cases hr : r < 0
  · have E := Lib.hid (frm_halves n (q - 1) (r + 1000000000) (by omega) (by omega) (by omega))
    clear en
    go_enter Try.func12, Try.ntmps12
    go_wp2_with fail
    go_ret
    refine ⟨ret_int ?_, rfl⟩
    rw [E.out]; simp only [IntKind.wrap_u64]
    have g1 : 0 ≤ (r + 1000000000) * 4294967296 / 1000000000 := by omega
    have g2 : (r + 1000000000) * 4294967296 / 1000000000 < 4294967296 := by omega
    generalize (r + 1000000000) * 4294967296 / 1000000000 = p at *
    clear E
    omega
  · have E := Lib.hid (frm_halves n q r (by omega) (by omega) (by omega))
    clear en
    go_enter Try.func12, Try.ntmps12
    go_wp2_with fail
    go_ret
    refine ⟨ret_int ?_, rfl⟩
    rw [E.out]; simp only [IntKind.wrap_u64]
    have g1 : 0 ≤ r * 4294967296 / 1000000000 := by omega
    have g2 : r * 4294967296 / 1000000000 < 4294967296 := by omega
    generalize r * 4294967296 / 1000000000 = p at *
    clear E
    omega

theorem ns_any (s : Int) (w : World) (h1 : 0 ≤ s) (h2 : s ≤ 18446744073709551615) :
    Calls Try.prog 13 #[.int .u64 s] w fun e w' => e = .returned (.int .i64 (nsf s)) ∧ Grown w w' := by
  have HH := Lib.hid (fun w => halves_any s w h1 h2)
  have HF := Lib.hid (fun w => floor_any (s / 4294967296) (s % 4294967296) w (by omega) (by omega) (by omega) (by omega))
  go_enter Try.func13, Try.ntmps13
  go_wp2_with fail
  refine (HH.out _).mono ?_
  rintro e w1 ⟨rfl, hg1⟩
  go_wp2_with fail
  refine (HF.out _).mono ?_
  rintro e w2 ⟨rfl, hg2⟩
  go_wp2
  go_ret
  exact ⟨ret_int (by rw [show s / 4294967296 * 4294967296 + s % 4294967296 = s by omega]), grown_trans hg1 hg2⟩

theorem rns_any (s : Int) (w : World) (h1 : 0 ≤ s) (h2 : s ≤ 18446744073709551615) :
    Calls Try.prog 14 #[.int .u64 s] w fun e w' => e = .returned (.int .i64 (nsf s)) ∧ w = w' := by
  have E := Lib.hid (nsf_halves (s / 4294967296) (s % 4294967296))
  go_enter Try.func14, Try.ntmps14
  go_wp2_with fail
  go_ret
  refine ⟨ret_int ?_, rfl⟩
  rw [E.out, show s / 4294967296 * 4294967296 + s % 4294967296 = s by omega]

theorem add_any (a b : Int) (w : World) (h1 : -9223372036854775808 ≤ a) (h2 : a ≤ 9223372036854775807) (h3 : -9223372036854775808 ≤ b) (h4 : b ≤ 9223372036854775807) :
    Calls Try.prog 24 #[.int .i64 a, .int .i64 b] w fun e w' => e = .returned (.int .i64 (stp (a + b))) ∧ w = w' := by
  go_enter Try.func24, Try.ntmps24
  go_wp2
  all_goals
    go_ret
    refine ⟨ret_int ?_, rfl⟩
    unfold stp
    repeat (first | omega | split)

theorem radd_any (a b : Int) (w : World) (h1 : -9223372036854775808 ≤ a) (h2 : a ≤ 9223372036854775807) (h3 : -9223372036854775808 ≤ b) (h4 : b ≤ 9223372036854775807) :
    Calls Try.prog 25 #[.int .i64 a, .int .i64 b] w fun e w' => e = .returned (.int .i64 (stp (a + b))) ∧ w = w' := by
  go_enter Try.func25, Try.ntmps25
  go_wp2
  all_goals
    go_ret
    refine ⟨ret_int ?_, rfl⟩
    unfold stp
    repeat (first | omega | split)

set_option maxHeartbeats 2000000 in
theorem ceil_core (x y n f p q r : Int) (w : World) (n1 : -9223372036854775808 ≤ n) (n2 : n ≤ 9223372036854775806)
    (HF : ∀ w, Calls Try.prog 22 #[.agg #[.int .u32 x, .int .u32 y]] w fun e w' => e = .returned (.int .i64 n) ∧ Grown w w')
    (HN : ∀ w, Calls Try.prog 11 #[.int .i64 n] w fun e w' => e = .returned (.int .u64 f) ∧ Grown w w')
    (HH : ∀ w, Calls Try.prog 21 #[.int .u64 f] w fun e w' => e = .returned (.agg #[.int .u32 p, .int .u32 q]) ∧ Grown w w')
    (hr : p = x ∧ q = y ∧ r = n ∨ ¬ (p = x ∧ q = y) ∧ r = n + 1) :
    Calls Try.prog 23 #[.agg #[.int .u32 x, .int .u32 y]] w fun e w' => e = .returned (.int .i64 r) ∧ Grown w w' := by
  have KF := Lib.hid HF
  have KN := Lib.hid HN
  clear HF HN
  rcases hr with ⟨rfl, rfl, rfl⟩ | ⟨hd, rfl⟩
  · have KH := Lib.hid HH
    clear HH
    go_enter Try.func23, Try.ntmps23
    go_wp2_with fail
    refine (KF.out _).mono ?_
    rintro e w1 ⟨rfl, hg1⟩
    have c0 : w1.cell? ⟨w.heap.size, 0, none⟩ = some (.int .u32 p) := grown_cell hg1 (by simp)
    have c1 : w1.cell? ⟨w.heap.size, 1, none⟩ = some (.int .u32 q) := grown_cell hg1 (by simp)
    go_wp2_with fail
    go_region_with (first | (go_at_call 11; refine (KN.out _).mono ?_; rintro e w2 ⟨rfl, hg2⟩; have d0 := grown_cell hg2 c0; have d1 := grown_cell hg2 c1) | (go_at_call 21; refine (KH.out _).mono ?_; rintro e w3 ⟨rfl, hg3⟩; have d2 := grown_cell hg3 d0; have d3 := grown_cell hg3 d1))
    all_goals
      go_wp2
      go_ret
      exact ⟨rfl, grown_trans ((Grown.refl _).alloc _ _) (grown_trans hg1 (grown_trans hg2 hg3))⟩
  · by_cases hx : p = x
    · subst hx
      have hy : (q == y) = false := by simp; omega
      have KH := Lib.hid HH
      clear HH hd
      go_enter Try.func23, Try.ntmps23
      go_wp2_with fail
      refine (KF.out _).mono ?_
      rintro e w1 ⟨rfl, hg1⟩
      have c0 : w1.cell? ⟨w.heap.size, 0, none⟩ = some (.int .u32 p) := grown_cell hg1 (by simp)
      have c1 : w1.cell? ⟨w.heap.size, 1, none⟩ = some (.int .u32 y) := grown_cell hg1 (by simp)
      go_wp2_with fail
      go_region_with (first | (go_at_call 11; refine (KN.out _).mono ?_; rintro e w2 ⟨rfl, hg2⟩; have d0 := grown_cell hg2 c0; have d1 := grown_cell hg2 c1) | (go_at_call 21; refine (KH.out _).mono ?_; rintro e w3 ⟨rfl, hg3⟩; have d2 := grown_cell hg3 d0; have d3 := grown_cell hg3 d1))
      all_goals
        go_wp2
        go_ret
        exact ⟨rfl, grown_trans ((Grown.refl _).alloc _ _) (grown_trans hg1 (grown_trans hg2 hg3))⟩
    · have hx' : (p == x) = false := by simp; omega
      have KH := Lib.hid HH
      clear HH hd hx
      go_enter Try.func23, Try.ntmps23
      go_wp2_with fail
      refine (KF.out _).mono ?_
      rintro e w1 ⟨rfl, hg1⟩
      have c0 : w1.cell? ⟨w.heap.size, 0, none⟩ = some (.int .u32 x) := grown_cell hg1 (by simp)
      have c1 : w1.cell? ⟨w.heap.size, 1, none⟩ = some (.int .u32 y) := grown_cell hg1 (by simp)
      go_wp2_with fail
      go_region_with (first | (go_at_call 11; refine (KN.out _).mono ?_; rintro e w2 ⟨rfl, hg2⟩; have d0 := grown_cell hg2 c0; have d1 := grown_cell hg2 c1) | (go_at_call 21; refine (KH.out _).mono ?_; rintro e w3 ⟨rfl, hg3⟩; have d2 := grown_cell hg3 d0; have d3 := grown_cell hg3 d1))
      all_goals
        go_wp2
        go_ret
        exact ⟨rfl, grown_trans ((Grown.refl _).alloc _ _) (grown_trans hg1 (grown_trans hg2 hg3))⟩

theorem ceil_any (x y : Int) (w : World) (h1 : 0 ≤ x) (h2 : x ≤ 4294967295) (h3 : 0 ≤ y) (h4 : y ≤ 4294967295) :
    Calls Try.prog 23 #[.agg #[.int .u32 x, .int .u32 y]] w fun e w' => e = .returned (.int .i64 (-nsf (-(x * 4294967296 + y)))) ∧ Grown w w' := by
  have s1 : 0 ≤ x * 4294967296 + y := by omega
  have s2 : x * 4294967296 + y ≤ 18446744073709551615 := by omega
  obtain ⟨n1, n2⟩ := nsf_bd (s := x * 4294967296 + y) (by omega) s2
  obtain ⟨f1, f2⟩ := frm_bd (nsf (x * 4294967296 + y))
  refine ceil_core x y _ _ _ _ _ w (by omega) (by omega) (fun w => floor_any x y w h1 h2 h3 h4) (fun w => from_any _ w (by omega) (by omega)) (fun w => halves_any _ w f1 f2) ?_
  by_cases hc : (x * 4294967296 + y) * 1000000000 % 4294967296 = 0
  · obtain ⟨e, g⟩ := frm_nsf_same _ s1 s2 hc
    clear hc
    rw [e, g]; exact Or.inl ⟨by omega, by omega, rfl⟩
  · obtain ⟨e, g⟩ := frm_nsf_less _ s1 s2 hc
    clear hc
    rw [g]
    refine Or.inr ⟨?_, rfl⟩
    generalize frm (nsf (x * 4294967296 + y)) = f at *
    clear g n1 n2
    omega
end Go.Proofs.Ytiifphnhdlemgaa
