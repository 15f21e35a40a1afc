/- QuorumOne's walk. -/
import Derived.Test.YtcmmhgalnfleoaaWch
import Derived.Deep.RegionHeld3
namespace Go.Proofs.Ytcmmhgalnfleoaa
open Go.RowKit

theorem mid_same (x : Int) (k : Nat) (h : 0 < k) : mid (List.replicate k x) = x := by
  have := mid_mem (List.replicate k x) (by simpa using h)
  rw [List.mem_replicate] at this
  exact this.2
theorem cho_same {q : Int} (x : Int) {k : Nat} (h : 1 ≤ q) (h2 : q ≤ k) : cho q (List.replicate k x) = x ∧ choE q k = 0 := by
  obtain ⟨e1, e2⟩ := cho_ok (q := q) (l := List.replicate k x) (by omega) (by simp; omega)
  rw [List.length_replicate] at e2
  exact ⟨by rw [e1]; exact mid_same x k (by omega), e2⟩

set_option maxRecDepth 100000 in
set_option maxHeartbeats 4000000 in
theorem walk_one (x n q : Int) (w : World) (hn0 : 0 ≤ n) (_hn1 : n ≤ 255) (hq0 : 0 ≤ q) (hq1 : q ≤ 255) :
    Calls Try.prog 7 #[.int .i64 x, .int .u8 n, .int .u8 q] w fun e w' => e = .returned (.bool true) ∧ Below w.heap.size w w' := by
  obtain ⟨r, hr⟩ : ∃ r : Nat, (n.tmod 20) = (r : Int) := ⟨(n.tmod 20).toNat, by have := Int.tmod_nonneg 20 hn0; omega⟩
  have hr20 : r < 20 := by have := Int.tmod_lt_of_pos n (show (0 : Int) < 20 by decide); omega
  obtain ⟨K, hK⟩ : ∃ K : Nat, K = r + 1 := ⟨_, rfl⟩
  have hKe : 1 + (r : Int) = (K : Int) := by omega
  obtain ⟨s, hs⟩ : ∃ s : Nat, (q.tmod (K : Int)) = (s : Int) := ⟨(q.tmod K).toNat, by have := Int.tmod_nonneg (K : Int) hq0; omega⟩
  have hsK : s < K := by have := Int.tmod_lt_of_pos q (show (0 : Int) < (K : Int) by omega); omega
  have hK20 : K ≤ 20 := by omega
  have hK1 : 1 ≤ K := by omega
  clear hK
  go_enter Try.func7, Try.ntmps7
  go_wp2
  go_loopw [8, 18] (fun v8 v18 wr => ∃ k : Nat, k ≤ K ∧ v18 = .int .i64 (k : Int) ∧ Hid (wr.ownsRow w.heap.size 2 1 v8 k ((List.replicate k x).map I) ∧ Below w.heap.size w wr)) (fun _ s _ => K - (intOf s).toNat)
  case atStart => exact ⟨0, by omega, rfl, Lib.hid ⟨World.ownsRow_nil _ _ _ _, Below.refl _ _⟩⟩
  case round =>
    obtain ⟨k, hk, rfl, R⟩ := hrel
    obtain ⟨A3, c3, rfl, _, _⟩ := own_len R.out.1
    by_cases hlt : k < K
    · go_wp2_with (at_builtin; go_loud (refine app_i rfl (.tmp 20) (.tmp 22) rfl w.heap.size (.slice A3 k c3) k _ rfl (own_below R.out.1 ((Below.refl _ _).alloc (Nat.le_refl _) _) (Nat.le_refl _)) (some ⟨wr.heap.size, 0, none⟩) 1 1 [x] rfl rfl (fun h => by cases h) (lies_new wr [I x] 2) (by omega) (by have := R.out.2.size; simp; omega) ?_); intro v2 w2 ho1 hg1 hat1; have H2 := Lib.hid (And.intro ho1 (bel_grown6 (R.out.2.alloc R.out.2.size _) (own_below R.out.1 ((Below.refl _ _).alloc (Nat.le_refl _) _) (Nat.le_refl _)) (Nat.le_refl _) hg1)); clear ho1 hg1 hat1)
      refine ⟨⟨k + 1, by omega, by go_num, Lib.hid ⟨?_, H2.out.2⟩⟩, ?_⟩
      · rw [List.replicate_succ']; exact H2.out.1
      · simp [intOf]; omega
    · obtain rfl : k = K := by omega
      obtain ⟨P, hP⟩ : ∃ P, P = 1 + (s : Int) := ⟨_, rfl⟩
      have V := Lib.hid (fun (w' : World) (hb : Below wr.heap.size wr w') => vfor (w := w') (A := A3) (c := c3) (n := k) (List.replicate k x) (by simp) (by omega) (lies_own (own_below R.out.1 hb (Nat.le_refl _))))
      have C := Lib.hid (fun (w' : World) B d (hv : Vts w' B (mkv 0 (List.replicate k x))) => cfor (w := w') (B := B) (d := d) (n := k) P (List.replicate k x) (by simp) (by omega) hv)
      rw [(cho_same x (by omega) (by omega)).1, (cho_same x (by omega) (by omega)).2] at C
      have t1 : ((k : Int) == 0) = false := by simp; omega
      have t2 : ¬ ((k : Int) = 0) := by omega
      have t3 : IntKind.i64.wrap P = P := by rw [IntKind.wrap_i64]; omega
      have t7 : 1 + (s : Int) = P := hP.symm
      clear hP
      have t4 : IntKind.i64.wrap (s : Int) = (s : Int) := by rw [IntKind.wrap_i64]; omega
      have t8 : IntKind.i64.wrap q = q := by rw [IntKind.wrap_i64]; omega
      have t6 : ¬ (k = 0) := by omega
      go_wp2_with fail
      go_region_held3 (fun _ => True) (exact trivial)
        (first
          | (go_at_call 10; go_loud (with_reducible refine (C.out _ _ _ M1.out.1).mono ?_); rintro e z2 ⟨rfl, h2⟩; have M2 := Lib.hid (bel_trans M1.out.2 h2); clear h2)
          | (go_at_call 11; go_loud (refine (V.out _ (below_drew (Below.refl _ _))).mono ?_); rintro e z1 ⟨B, d, rfl, hv, h1⟩; have M1 := Lib.hid (And.intro hv (bel_trans (below_drew (Below.refl _ _)) h1)); clear hv h1))
      have H1 := Lib.hid (And.intro (own_below R.out.1 M2.out (Nat.le_refl _)) (bel_trans R.out.2 M2.out))
      clear V C R M2 M1 t1 t2 t3 t4 t6 t7 t8 hs hsK
      have C2 := Lib.hid (fun (w' : World) B d (hv : Vts w' B (mkv 0 (List.replicate (k + 1) x))) => cfor (w := w') (B := B) (d := d) (n := k + 1) 1 (List.replicate (k + 1) x) (by simp) (by omega) hv)
      rw [(cho_same x (by omega) (by omega)).1, (cho_same x (by omega) (by omega)).2] at C2
      go_wp2_with (at_builtin; go_loud (refine app_i rfl (.tmp 37) (.tmp 39) rfl w.heap.size (.slice A3 k c3) k _ rfl (own_below H1.out.1 ((Below.refl _ _).alloc (Nat.le_refl _) _) (Nat.le_refl _)) (some ⟨z2.heap.size, 0, none⟩) 1 1 [x] rfl rfl (fun h => by cases h) (lies_new z2 [I x] 2) (by omega) (by have := H1.out.2.size; simp; omega) ?_); intro v2 w2 ho1 hg1 hat1; have H2 := Lib.hid (And.intro ho1 (bel_grown6 (H1.out.2.alloc H1.out.2.size _) (own_below H1.out.1 ((Below.refl _ _).alloc (Nat.le_refl _) _) (Nat.le_refl _)) (Nat.le_refl _) hg1)); clear ho1 hg1 hat1)
      have ho := H2.out.1
      rw [← List.replicate_succ'] at ho
      obtain ⟨A4, c4, rfl, _, _⟩ := own_len ho
      refine (vfor (c := c4) (n := k + 1) (List.replicate (k + 1) x) (by simp) (by omega) (lies_own ho)).mono ?_
      rintro e w4 ⟨B, d, rfl, hv, hb4⟩
      have H3 := Lib.hid (And.intro hv (bel_trans H2.out.2 hb4))
      clear hv hb4 ho H2 H1
      go_wp2_with fail
      refine (C2.out _ _ _ H3.out.1).mono ?_
      rintro e w5 ⟨rfl, hb5⟩
      have H4 := Lib.hid (bel_trans H3.out.2 hb5)
      clear hb5 H3 C2
      go_wp2_with fail
      refine (alive_any _).mono ?_
      rintro e w6 ⟨rfl, hb6⟩
      have H5 := Lib.hid (bel_trans H4.out hb6)
      clear hb6 H4
      go_wp2
      go_ret
      exact ⟨by simp, H5.out⟩
end Go.Proofs.Ytcmmhgalnfleoaa
