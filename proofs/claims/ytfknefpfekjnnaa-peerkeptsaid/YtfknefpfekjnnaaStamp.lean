/- The calls of package stamp and of the document's answers, each by its number, on whole numbers: what each returns. -/
import Derived.Test.YtfknefpfekjnnaaRows
import Derived.Test.YtfknefpfekjnnaaSat
import Derived.WalkKit
import Derived.WalkSpells
import Derived.Laws.BitsLemmas
import Derived.Lib.Hide
import Derived.Deep.RegionWith
namespace Go.Proofs.Ytfknefpfekjnnaa
open Go.RowKit

theorem bel_trans {w wi wj : World} (h : Below w.heap.size w wi) (g : Below wi.heap.size wi wj) : Below w.heap.size w wj := h.trans (g.mono h.size)
theorem bel_drew {w wi : World} (h : Below w.drew.heap.size w.drew wi) : Below w.heap.size w wi := ⟨h.os, h.tape, h.output, h.size, h.block⟩
theorem bel_alloc (w : World) (o : Obj) : Below w.heap.size w (w.alloc o) := (Below.refl _ _).alloc (Nat.le_refl _) o

theorem stamp_any (x y : Int) (w : World) (h1 : 0 ≤ x) (h2 : x ≤ 4294967295) (h3 : 0 ≤ y) (h4 : y ≤ 4294967295) :
    Calls Try.prog 90 #[.agg #[.int .u32 x, .int .u32 y]] w fun e w' => e = .returned (.int .u64 (x * 4294967296 + y)) ∧ Below w.heap.size w w' := by
  go_enter Try.func90, Try.ntmps90
  go_wp2
  go_ret
  refine ⟨ret_int ?_, bel_alloc _ _⟩
  exact bits_join .u64 64 (by decide) (by intro n _ _; simp only [IntKind.wrap_u64]; omega) 32 _ _ (by omega) (by omega) (by omega) (by omega) (by omega) (by omega)

theorem halves_any (s : Int) (w : World) (h1 : 0 ≤ s) (h2 : s ≤ 18446744073709551615) :
    Calls Try.prog 87 #[.int .u64 s] w fun e w' => e = .returned (.agg #[.int .u32 (s / 4294967296), .int .u32 (s % 4294967296)]) ∧ Below w.heap.size w w' := by
  go_enter Try.func87, Try.ntmps87
  go_wp2
  refine bodyPost_ret (v := .agg #[.int .u32 (s / 4294967296), .int .u32 (s % 4294967296)]) (by simp [results, Try.results87, go_sem]) rfl ⟨rfl, bel_alloc _ _⟩

theorem floor_any (x y : Int) (w : World) (h1 : 0 ≤ x) (h2 : x ≤ 4294967295) (h3 : 0 ≤ y) (h4 : y ≤ 4294967295) :
    Calls Try.prog 88 #[.agg #[.int .u32 x, .int .u32 y]] w fun e w' => e = .returned (.int .i64 (nsf (x * 4294967296 + y))) ∧ Below w.heap.size w w' := by
  go_enter Try.func88, Try.ntmps88
  go_wp2
  go_ret
  exact ⟨ret_int (nsf_halves x y), bel_alloc _ _⟩

theorem from_any (n : Int) (w : World) (h1 : -9223372036854775808 ≤ n) (h2 : n ≤ 9223372036854775807) :
    Calls Try.prog 73 #[.int .i64 n] w fun e w' => e = .returned (.int .u64 (frm n)) ∧ Below w.heap.size w w' := by
  obtain ⟨q, r, eq, er, en, r1, r2, q1, q2⟩ := parts_sec n h1 h2
  by_cases hr : r < 0
  · have E := Lib.hid (frm_halves n (q - 1) (r + 1000000000) (by omega) (by omega) (by omega))
    have HS := Lib.hid (fun w => stamp_any ((q - 1) % 4294967296) ((r + 1000000000) * 4294967296 / 1000000000) w (by omega) (by omega) (by omega) (by omega))
    clear en
    go_enter Try.func73, Try.ntmps73
    go_wp2_with fail
    refine (HS.out _).mono ?_
    rintro e w1 ⟨rfl, hg⟩
    go_wp2
    go_ret
    exact ⟨ret_int E.out.symm, hg⟩
  · have E := Lib.hid (frm_halves n q r (by omega) (by omega) (by omega))
    have HS := Lib.hid (fun w => stamp_any (q % 4294967296) (r * 4294967296 / 1000000000) w (by omega) (by omega) (by omega) (by omega))
    clear en
    go_enter Try.func73, Try.ntmps73
    go_wp2_with fail
    refine (HS.out _).mono ?_
    rintro e w1 ⟨rfl, hg⟩
    go_wp2
    go_ret
    exact ⟨ret_int E.out.symm, hg⟩

theorem rfrom_any (n : Int) (w : World) (h1 : -9223372036854775808 ≤ n) (h2 : n ≤ 9223372036854775807) :
    Calls Try.prog 66 #[.int .i64 n] w fun e w' => e = .returned (.int .u64 (frm n)) ∧ w = w' := by
  obtain ⟨q, r, eq, er, en, r1, r2, q1, q2⟩ := parts_sec n h1 h2
  by_cases hr : r < 0
  · have E := Lib.hid (frm_halves n (q - 1) (r + 1000000000) (by omega) (by omega) (by omega))
    clear en
    go_enter Try.func66, Try.ntmps66
    go_wp2_with fail
    go_ret
    refine ⟨ret_int ?_, rfl⟩
    rw [E.out]; simp only [IntKind.wrap_u64]
    have g1 : 0 ≤ (r + 1000000000) * 4294967296 / 1000000000 := by omega
    have g2 : (r + 1000000000) * 4294967296 / 1000000000 < 4294967296 := by omega
    generalize (r + 1000000000) * 4294967296 / 1000000000 = p at *
    clear E
    omega
  · have E := Lib.hid (frm_halves n q r (by omega) (by omega) (by omega))
    clear en
    go_enter Try.func66, Try.ntmps66
    go_wp2_with fail
    go_ret
    refine ⟨ret_int ?_, rfl⟩
    rw [E.out]; simp only [IntKind.wrap_u64]
    have g1 : 0 ≤ r * 4294967296 / 1000000000 := by omega
    have g2 : r * 4294967296 / 1000000000 < 4294967296 := by omega
    generalize r * 4294967296 / 1000000000 = p at *
    clear E
    omega

theorem rns_any (s : Int) (w : World) (h1 : 0 ≤ s) (h2 : s ≤ 18446744073709551615) :
    Calls Try.prog 77 #[.int .u64 s] w fun e w' => e = .returned (.int .i64 (nsf s)) ∧ w = w' := by
  have E := Lib.hid (nsf_halves (s / 4294967296) (s % 4294967296))
  go_enter Try.func77, Try.ntmps77
  go_wp2_with fail
  go_ret
  refine ⟨ret_int ?_, rfl⟩
  rw [E.out, show s / 4294967296 * 4294967296 + s % 4294967296 = s by omega]

set_option maxHeartbeats 2000000 in
theorem ceil_core (x y n f p q r : Int) (w : World) (n1 : -9223372036854775808 ≤ n) (n2 : n ≤ 9223372036854775806)
    (HF : ∀ w, Calls Try.prog 88 #[.agg #[.int .u32 x, .int .u32 y]] w fun e w' => e = .returned (.int .i64 n) ∧ Below w.heap.size w w')
    (HN : ∀ w, Calls Try.prog 73 #[.int .i64 n] w fun e w' => e = .returned (.int .u64 f) ∧ Below w.heap.size w w')
    (HH : ∀ w, Calls Try.prog 87 #[.int .u64 f] w fun e w' => e = .returned (.agg #[.int .u32 p, .int .u32 q]) ∧ Below w.heap.size w w')
    (hr : p = x ∧ q = y ∧ r = n ∨ ¬ (p = x ∧ q = y) ∧ r = n + 1) :
    Calls Try.prog 89 #[.agg #[.int .u32 x, .int .u32 y]] w fun e w' => e = .returned (.int .i64 r) ∧ Below w.heap.size w w' := by
  have KF := Lib.hid HF
  have KN := Lib.hid HN
  clear HF HN
  rcases hr with ⟨rfl, rfl, rfl⟩ | ⟨hd, rfl⟩
  · have KH := Lib.hid HH
    clear HH
    go_enter Try.func89, Try.ntmps89
    go_wp2_with fail
    refine (KF.out _).mono ?_
    rintro e w1 ⟨rfl, hg1⟩
    have c0 : w1.cell? ⟨w.heap.size, 0, none⟩ = some (.int .u32 p) := cell_later hg1 (by simp)
    have c1 : w1.cell? ⟨w.heap.size, 1, none⟩ = some (.int .u32 q) := cell_later hg1 (by simp)
    go_wp2_with fail
    go_region_with (first | (go_at_call 73; refine (KN.out _).mono ?_; rintro e w2 ⟨rfl, hg2⟩; have d0 := cell_later hg2 c0; have d1 := cell_later hg2 c1) | (go_at_call 87; refine (KH.out _).mono ?_; rintro e w3 ⟨rfl, hg3⟩; have d2 := cell_later hg3 d0; have d3 := cell_later hg3 d1))
    all_goals
      go_wp2
      go_ret
      exact ⟨rfl, bel_trans (bel_alloc _ _) (bel_trans hg1 (bel_trans (bel_drew hg2) hg3))⟩
  · by_cases hx : p = x
    · subst hx
      have hy : (q == y) = false := by simp; omega
      have KH := Lib.hid HH
      clear HH hd
      go_enter Try.func89, Try.ntmps89
      go_wp2_with fail
      refine (KF.out _).mono ?_
      rintro e w1 ⟨rfl, hg1⟩
      have c0 : w1.cell? ⟨w.heap.size, 0, none⟩ = some (.int .u32 p) := cell_later hg1 (by simp)
      have c1 : w1.cell? ⟨w.heap.size, 1, none⟩ = some (.int .u32 y) := cell_later hg1 (by simp)
      go_wp2_with fail
      go_region_with (first | (go_at_call 73; refine (KN.out _).mono ?_; rintro e w2 ⟨rfl, hg2⟩; have d0 := cell_later hg2 c0; have d1 := cell_later hg2 c1) | (go_at_call 87; refine (KH.out _).mono ?_; rintro e w3 ⟨rfl, hg3⟩; have d2 := cell_later hg3 d0; have d3 := cell_later hg3 d1))
      all_goals
        go_wp2
        go_ret
        exact ⟨rfl, bel_trans (bel_alloc _ _) (bel_trans hg1 (bel_trans (bel_drew hg2) hg3))⟩
    · have hx' : (p == x) = false := by simp; omega
      have KH := Lib.hid HH
      clear HH hd hx
      go_enter Try.func89, Try.ntmps89
      go_wp2_with fail
      refine (KF.out _).mono ?_
      rintro e w1 ⟨rfl, hg1⟩
      have c0 : w1.cell? ⟨w.heap.size, 0, none⟩ = some (.int .u32 x) := cell_later hg1 (by simp)
      have c1 : w1.cell? ⟨w.heap.size, 1, none⟩ = some (.int .u32 y) := cell_later hg1 (by simp)
      go_wp2_with fail
      go_region_with (first | (go_at_call 73; refine (KN.out _).mono ?_; rintro e w2 ⟨rfl, hg2⟩; have d0 := cell_later hg2 c0; have d1 := cell_later hg2 c1) | (go_at_call 87; refine (KH.out _).mono ?_; rintro e w3 ⟨rfl, hg3⟩; have d2 := cell_later hg3 d0; have d3 := cell_later hg3 d1))
      all_goals
        go_wp2
        go_ret
        exact ⟨rfl, bel_trans (bel_alloc _ _) (bel_trans hg1 (bel_trans (bel_drew hg2) hg3))⟩

theorem ceil_any (x y : Int) (w : World) (h1 : 0 ≤ x) (h2 : x ≤ 4294967295) (h3 : 0 ≤ y) (h4 : y ≤ 4294967295) :
    Calls Try.prog 89 #[.agg #[.int .u32 x, .int .u32 y]] w fun e w' => e = .returned (.int .i64 (-nsf (-(x * 4294967296 + y)))) ∧ Below w.heap.size w w' := by
  have s1 : 0 ≤ x * 4294967296 + y := by omega
  have s2 : x * 4294967296 + y ≤ 18446744073709551615 := by omega
  obtain ⟨n1, n2⟩ := nsf_bd (s := x * 4294967296 + y) (by omega) s2
  obtain ⟨f1, f2⟩ := frm_bd (nsf (x * 4294967296 + y))
  refine ceil_core x y _ _ _ _ _ w (by omega) (by omega) (fun w => floor_any x y w h1 h2 h3 h4) (fun w => from_any _ w (by omega) (by omega)) (fun w => halves_any _ w f1 f2) ?_
  by_cases hc : (x * 4294967296 + y) * 1000000000 % 4294967296 = 0
  · obtain ⟨e, g⟩ := frm_nsf_same _ s1 s2 hc
    clear hc
    rw [e, g]; exact Or.inl ⟨by omega, by omega, rfl⟩
  · obtain ⟨e, g⟩ := frm_nsf_less _ s1 s2 hc
    clear hc
    rw [g]
    refine Or.inr ⟨?_, rfl⟩
    generalize frm (nsf (x * 4294967296 + y)) = f at *
    clear g n1 n2
    omega
end Go.Proofs.Ytfknefpfekjnnaa
