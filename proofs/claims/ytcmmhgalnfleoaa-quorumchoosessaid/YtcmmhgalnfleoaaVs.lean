/- The votes of stores, and of lists of samples by the document; Select. -/
import Derived.Test.YtcmmhgalnfleoaaChs
import Derived.Test.YtcmmhgalnfleoaaRch
import Derived.Test.YtcmmhgalnfleoaaRef
import Derived.WalkMore
namespace Go.Proofs.Ytcmmhgalnfleoaa
open Go.RowKit

theorem heap_alloc_at (w : World) (o : Obj) (H : Nat) (h : H = w.heap.size) : (w.alloc o).heap[H]? = some o := by subst h; exact heap_alloc_new w o
/-- Stores, or nil ones, that lie one behind another and keep so much. -/
def Sts (w : World) (A : Option Addr) (Ls : List (List Sm)) : Prop := ∀ (k : Nat) (L : List Sm), Ls[k]? = some L → ∃ g o P, A = some ⟨g, o, none⟩ ∧ g < w.heap.size ∧ w.cell? ⟨g, o + k, none⟩ = some (.pointer P) ∧ Src w P L ∧ ∀ p ∈ L, p.In
theorem Sts.later {w w' : World} {A : Option Addr} {Ls : List (List Sm)} (h : Sts w A Ls) (hb : Below w.heap.size w w') : Sts w' A Ls := fun k L hk => by
  obtain ⟨g, o, P, e, hg, hc, hs, hi⟩ := h k L hk
  exact ⟨g, o, P, e, by have := hb.size; omega, (hb.cell (p := ⟨g, _, none⟩) hg).trans hc, hs.below hb, hi⟩
/-- Lists of samples that lie one behind another. -/
def Sls (w : World) (A : Option Addr) (Ls : List (List Sm)) : Prop := ∀ (k : Nat) (L : List Sm), Ls[k]? = some L → ∃ g o B c, A = some ⟨g, o, none⟩ ∧ g < w.heap.size ∧ w.cell? ⟨g, o + k, none⟩ = some (.slice B L.length c) ∧ L.length ≤ c ∧ c ≤ maxLen ∧ Sms w B L ∧ ∀ p ∈ L, p.In
theorem Sls.later {w w' : World} {A : Option Addr} {Ls : List (List Sm)} (h : Sls w A Ls) (hb : Below w.heap.size w w') : Sls w' A Ls := fun k L hk => by
  obtain ⟨g, o, B, c, e, hg, hc, h1, h2, hs, hi⟩ := h k L hk
  exact ⟨g, o, B, c, e, by have := hb.size; omega, (hb.cell (p := ⟨g, _, none⟩) hg).trans hc, h1, h2, hs.later hb, hi⟩

theorem vts_some {h life n : Int} {Ls : List (List Sm)} {k : Nat} {L : List Sm} {p : Sm} (hk : Ls[k]? = some L) (hb : bestOf h life L = some p) : vts h life n 0 (Ls.take (k + 1)) = vts h life n 0 (Ls.take k) ++ [⟨k, p, nowOf p.o p.s n⟩] := by
  rw [take_snoc hk, vts_snoc, hb, List.length_take_of_le (by have := (List.getElem?_eq_some_iff.1 hk).1; omega), Nat.zero_add]
theorem vts_none {h life n : Int} {Ls : List (List Sm)} {k : Nat} {L : List Sm} (hk : Ls[k]? = some L) (hb : bestOf h life L = none) : vts h life n 0 (Ls.take (k + 1)) = vts h life n 0 (Ls.take k) := by
  rw [take_snoc hk, vts_snoc, hb]
  simp
theorem vts_take_len (h life n : Int) (Ls : List (List Sm)) (k : Nat) : (vts h life n 0 (Ls.take k)).length ≤ k := Nat.le_trans (vts_len _ _ _ _ _) (List.length_take_le _ _)

set_option maxRecDepth 100000 in
set_option maxHeartbeats 4000000 in
theorem svotes_any {w : World} {A : Option Addr} {c : Nat} (h life n : Int) (Ls : List (List Sm)) (hb : Ls.length ≤ 1000) (hs : Sts w A Ls)
    (hh1 : -9223372036854775808 ≤ h) (hh2 : h ≤ 9223372036854775807) (hn1 : -9223372036854775808 ≤ n) (hn2 : n ≤ 9223372036854775807) :
    Calls Try.prog 17 #[.slice A Ls.length c, .int .i64 h, .int .i64 life, .int .i64 n] w fun e w' => ∃ v, e = .returned v ∧ w'.ownsRow w.heap.size 48 6 v (vts h life n 0 Ls).length (vflat (vts h life n 0 Ls)) ∧ Below w.heap.size w w' := by
  obtain ⟨i0, hi0, hz0, hz1, hz2⟩ := info_parts info_v
  obtain ⟨N, hn⟩ : ∃ N, N = Ls.length := ⟨_, rfl⟩
  rw [← hn] at hb ⊢
  have HN := Lib.hid hn
  have HC := Lib.hid hs
  have BA := Lib.hid (fun (P : Option Addr) (L : List Sm) (w : World) hL hS => best_any P h life n L w hh1 hh2 hn1 hn2 hL hS)
  clear hs hn hh1 hh2 hn1 hn2
  go_enter Try.func17, Try.ntmps17
  go_wp2
  go_step3
  go_wp2
  go_step3
  go_wp2
  go_loopw [9, 17] (fun v9 v17 wr => ∃ k : Nat, k ≤ N ∧ v17 = .int .i64 (k : Int) ∧ Hid (wr.ownsRow w.heap.size 48 6 v9 (vts h life n 0 (Ls.take k)).length (vflat (vts h life n 0 (Ls.take k))) ∧ Below w.heap.size w wr)) (fun _ s _ => N - (intOf s).toNat)
  case atStart => exact ⟨0, by omega, rfl, Lib.hid ⟨World.ownsRow_nil _ _ _ _, Below.refl _ _⟩⟩
  case round =>
    obtain ⟨k, hk, rfl, R⟩ := hrel
    by_cases hlt : k < N
    · obtain ⟨L, hx⟩ : ∃ L, Ls[k]? = some L := ⟨Ls[k]'(by have := HN.out; omega), List.getElem?_eq_getElem _⟩
      obtain ⟨g, o, P, rfl, hg, c0, hsrc, hin⟩ := (HC.out.later R.out.2) k L hx
      have hml := vts_take_len h life n Ls k
      obtain ⟨R1, R2⟩ := R.out
      clear R
      cases hbo : bestOf h life L with
      | none =>
        have e := vts_none (n := n) hx hbo
        have K := BA.out P L wr hin hsrc
        rw [hbo] at K
        have H0 := Lib.hid (And.intro K (And.intro e (And.intro R1 R2)))
        clear K e R1 R2 hg hsrc hin hx hbo BA hml
        go_wp2_with fail
        refine H0.out.1.mono ?_
        rintro e w1 ⟨rfl, hb1⟩
        have H1 := Lib.hid (And.intro H0.out.2.1 (And.intro (own_below H0.out.2.2.1 (bel_trans hb1 (bel_alloc _ (.cells Sm.zero.arr 31))) (Nat.le_refl _)) (bel_trans (bel_trans H0.out.2.2.2 hb1) (bel_alloc _ (.cells Sm.zero.arr 31)))))
        clear hb1 H0
        go_wp2
        refine ⟨⟨k + 1, by omega, by go_num, Lib.hid ⟨?_, H1.out.2.2⟩⟩, ?_⟩
        · rw [H1.out.1]; exact H1.out.2.1
        · simp [intOf]; omega
      | some p =>
        have e := vts_some (n := n) hx hbo
        have K := BA.out P L wr hin hsrc
        rw [hbo] at K
        obtain ⟨m, hm⟩ : ∃ m, m = (vts h life n 0 (Ls.take k)).length := ⟨_, rfl⟩
        rw [← hm] at R1 hml
        obtain ⟨A3, c3, rfl, _, _⟩ := own_len R1
        have H0 := Lib.hid (And.intro K (And.intro e (And.intro R1 (And.intro R2 hm))))
        clear K e R1 R2 hg hsrc hin hx hbo BA hm
        go_wp2_with fail
        refine H0.out.1.mono ?_
        rintro e w1 ⟨rfl, hb1⟩
        have H1 := Lib.hid (And.intro H0.out.2.1 (And.intro (own_below H0.out.2.2.1 (bel_trans hb1 (bel_alloc _ (.cells p.arr 31))) (Nat.le_refl _)) (And.intro (bel_trans (bel_trans H0.out.2.2.2.1 hb1) (bel_alloc _ (.cells p.arr 31))) H0.out.2.2.2.2)))
        clear hb1 H0
        go_wp2_with (at_builtin; go_loud (refine wpList_append_lies _ rfl (.tmp 33) (.tmp 38) 27 rfl w.heap.size 48 i0 (.agg #[.int .i64 0, .int .i64 0, .int .i64 0, .int .i64 0, .int .i64 0, .int .i64 0]) 6 48 Try.underlying27 hi0 hz0 hz1 hz2 rfl (by decide) (.slice A3 m c3) m _ rfl (own_below H1.out.2.1 ((Below.refl _ _).alloc (Nat.le_refl _) _) (Nat.le_refl _)) ⟨w1.heap.size + 1, 0, none⟩ 1 1 (Vt.mk k p (nowOf p.o p.s n)).cells rfl rfl (World.news_of_block (cs := (Vt.mk k p (nowOf p.o p.s n)).cells.toArray) (heap_alloc_at _ _ _ (by simp))) (vflat_one' _) (by decide) (by unfold maxLen; omega) (by omega) (by have := H1.out.2.2.1.size; simp at this; simp; omega) _ rfl ?_); intro p1 cp1 w2 ho1 hg1 hat1 _; have H2 := Lib.hid (And.intro ho1 (bel_grown6 (H1.out.2.2.1.alloc H1.out.2.2.1.size _) (own_below H1.out.2.1 ((Below.refl _ _).alloc (Nat.le_refl _) _) (Nat.le_refl _)) (Nat.le_refl _) hg1)); clear ho1 hg1 hat1)
        refine ⟨⟨k + 1, by omega, by go_num, Lib.hid ⟨?_, H2.out.2⟩⟩, ?_⟩
        · rw [H1.out.1, vflat_append, vflat_one, List.length_append, ← H1.out.2.2.2]; exact H2.out.1
        · simp [intOf]; omega
    · obtain rfl : k = N := by omega
      have e : Ls.take k = Ls := List.take_of_length_le (by have := HN.out; omega)
      have R1 := R.out
      rw [e] at R1
      have H1 := Lib.hid R1
      clear R1 R e
      go_wp2
      try rw [Exit.noGoto_ret]
      go_ret
      exact ⟨_, rfl, H1.out.1, H1.out.2⟩
end Go.Proofs.Ytcmmhgalnfleoaa
