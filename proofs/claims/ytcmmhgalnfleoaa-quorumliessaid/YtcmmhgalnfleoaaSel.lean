/- The document's votes; Select. -/
import Derived.Test.YtcmmhgalnfleoaaVs
namespace Go.Proofs.Ytcmmhgalnfleoaa
open Go.RowKit

set_option maxRecDepth 100000 in
set_option maxHeartbeats 4000000 in
theorem rvotes_any {w : World} {A : Option Addr} {c : Nat} (h life n : Int) (Ls : List (List Sm)) (hb : Ls.length ≤ 1000) (hs : Sls w A Ls)
    (hh1 : -9223372036854775808 ≤ h) (hh2 : h ≤ 9223372036854775807) (hn1 : -9223372036854775808 ≤ n) (hn2 : n ≤ 9223372036854775807) :
    Calls Try.prog 16 #[.slice A Ls.length c, .int .i64 h, .int .i64 life, .int .i64 n] w fun e w' => ∃ v, e = .returned v ∧ w'.ownsRow w.heap.size 33 6 v (vts h life n 0 (Ls.map last8)).length (vflat (vts h life n 0 (Ls.map last8))) ∧ Below w.heap.size w w' := by
  obtain ⟨i0, hi0, hz0, hz1, hz2⟩ := info_parts info_rv
  obtain ⟨N, hn⟩ : ∃ N, N = Ls.length := ⟨_, rfl⟩
  rw [← hn] at hb ⊢
  have HN := Lib.hid hn
  have HC := Lib.hid hs
  have BA := Lib.hid (fun (A : Option Addr) (cap : Nat) (L : List Sm) (w : World) h1 h2 hS hL => rbest_any A cap L h life n w h1 h2 hS hL hh1 hh2 hn1 hn2)
  clear hs hn hh1 hh2 hn1 hn2
  go_enter Try.func16, Try.ntmps16
  go_wp2
  go_loopw [9, 10] (fun v9 v17 wr => ∃ k : Nat, k ≤ N ∧ v17 = .int .i64 (k : Int) ∧ Hid (wr.ownsRow w.heap.size 33 6 v9 (vts h life n 0 ((Ls.map last8).take k)).length (vflat (vts h life n 0 ((Ls.map last8).take k))) ∧ Below w.heap.size w wr)) (fun _ s _ => N - (intOf s).toNat)
  case atStart => exact ⟨0, by omega, rfl, Lib.hid ⟨World.ownsRow_nil _ _ _ _, Below.refl _ _⟩⟩
  case round =>
    obtain ⟨k, hk, rfl, R⟩ := hrel
    by_cases hlt : k < N
    · obtain ⟨L, hx⟩ : ∃ L, Ls[k]? = some L := ⟨Ls[k]'(by have := HN.out; omega), List.getElem?_eq_getElem _⟩
      obtain ⟨g, o, B, cB, rfl, hg, c0, hlc, hcm, hsrc, hin⟩ := (HC.out.later R.out.2) k L hx
      have hx8 : (Ls.map last8)[k]? = some (last8 L) := by rw [List.getElem?_map, hx]; rfl
      have hml := vts_take_len h life n (Ls.map last8) k
      obtain ⟨R1, R2⟩ := R.out
      clear R
      have K := BA.out B cB L wr hlc hcm hsrc hin
      cases hbo : bestOf h life (last8 L) with
      | none =>
        have e := vts_none (n := n) hx8 hbo
        rw [hbo] at K
        have H0 := Lib.hid (And.intro K (And.intro e (And.intro R1 R2)))
        clear K e R1 R2 hg hsrc hin hx hx8 hbo BA hml hlc hcm
        go_wp2_with fail
        refine H0.out.1.mono ?_
        rintro e w1 ⟨rfl, hb1⟩
        have H1 := Lib.hid (And.intro H0.out.2.1 (And.intro (own_below H0.out.2.2.1 (bel_trans hb1 (bel_alloc _ (.cells Sm.zero.arr 31))) (Nat.le_refl _)) (bel_trans (bel_trans H0.out.2.2.2 hb1) (bel_alloc _ (.cells Sm.zero.arr 31)))))
        clear hb1 H0
        go_wp2
        refine ⟨⟨k + 1, by omega, by go_num, Lib.hid ⟨?_, H1.out.2.2⟩⟩, ?_⟩
        · rw [H1.out.1]; exact H1.out.2.1
        · simp [intOf]; omega
      | some p =>
        have e := vts_some (n := n) hx8 hbo
        rw [hbo] at K
        obtain ⟨m, hm⟩ : ∃ m, m = (vts h life n 0 ((Ls.map last8).take k)).length := ⟨_, rfl⟩
        rw [← hm] at R1 hml
        obtain ⟨A3, c3, rfl, _, _⟩ := own_len R1
        have H0 := Lib.hid (And.intro K (And.intro e (And.intro R1 (And.intro R2 hm))))
        clear K e R1 R2 hg hsrc hin hx hx8 hbo BA hm hlc hcm
        go_wp2_with fail
        refine H0.out.1.mono ?_
        rintro e w1 ⟨rfl, hb1⟩
        have H1 := Lib.hid (And.intro H0.out.2.1 (And.intro (own_below H0.out.2.2.1 (bel_trans hb1 (bel_alloc _ (.cells p.arr 31))) (Nat.le_refl _)) (And.intro (bel_trans (bel_trans H0.out.2.2.2.1 hb1) (bel_alloc _ (.cells p.arr 31))) H0.out.2.2.2.2)))
        clear hb1 H0
        go_wp2_with (at_builtin; go_loud (refine wpList_append_lies _ rfl (.tmp 33) (.tmp 38) 29 rfl w.heap.size 33 i0 (.agg #[.int .i64 0, .int .i64 0, .int .i64 0, .int .i64 0, .int .i64 0, .int .i64 0]) 6 48 Try.underlying29 hi0 hz0 hz1 hz2 rfl (by decide) (.slice A3 m c3) m _ rfl (own_below H1.out.2.1 ((Below.refl _ _).alloc (Nat.le_refl _) _) (Nat.le_refl _)) ⟨w1.heap.size + 1, 0, none⟩ 1 1 (Vt.mk k p (nowOf p.o p.s n)).cells rfl rfl (World.news_of_block (cs := (Vt.mk k p (nowOf p.o p.s n)).cells.toArray) (heap_alloc_at _ _ _ (by simp))) (vflat_one' _) (by decide) (by unfold maxLen; omega) (by omega) (by have := H1.out.2.2.1.size; simp at this; simp; omega) _ rfl ?_); intro p1 cp1 w2 ho1 hg1 hat1 _; have H2 := Lib.hid (And.intro ho1 (bel_grown6 (H1.out.2.2.1.alloc H1.out.2.2.1.size _) (own_below H1.out.2.1 ((Below.refl _ _).alloc (Nat.le_refl _) _) (Nat.le_refl _)) (Nat.le_refl _) hg1)); clear ho1 hg1 hat1)
        refine ⟨⟨k + 1, by omega, by go_num, Lib.hid ⟨?_, H2.out.2⟩⟩, ?_⟩
        · rw [H1.out.1, vflat_append, vflat_one, List.length_append, ← H1.out.2.2.2]; exact H2.out.1
        · simp [intOf]; omega
    · obtain rfl : k = N := by omega
      have e : (Ls.map last8).take k = Ls.map last8 := List.take_of_length_le (by have := HN.out; simp; omega)
      have R1 := R.out
      rw [e] at R1
      have H1 := Lib.hid R1
      clear R1 R e
      go_wp2
      go_ret
      exact ⟨_, rfl, H1.out.1, H1.out.2⟩

theorem select_low (q h life n : Int) (A : Option Addr) (l c : Nat) (w : World) (hq : q < 1) : Calls Try.prog 15 #[.int .i64 q, .slice A l c, .int .i64 h, .int .i64 life, .int .i64 n] w fun e w' => e = .returned (.tuple #[.int .i64 0, .slice none 0 0, .int .i64 3]) ∧ w = w' := by
  go_enter Try.func15, Try.ntmps15
  go_wp2
  exact bodyPost_ret (v := .tuple #[.int .i64 0, .slice none 0 0, .int .i64 3]) (by simp [results, Try.results15, go_sem]) rfl ⟨rfl, rfl⟩
set_option maxRecDepth 100000 in
theorem select_any {w : World} {A : Option Addr} {c : Nat} (q h life n : Int) (Ls : List (List Sm)) (hq : ¬ q < 1) (hb : Ls.length ≤ 1000) (hs : Sts w A Ls)
    (hh1 : -9223372036854775808 ≤ h) (hh2 : h ≤ 9223372036854775807) (hn1 : -9223372036854775808 ≤ n) (hn2 : n ≤ 9223372036854775807) :
    Calls Try.prog 15 #[.int .i64 q, .slice A Ls.length c, .int .i64 h, .int .i64 life, .int .i64 n] w fun e w' => ∃ B d, e = .returned (.tuple #[.int .i64 (cho q ((vts h life n 0 Ls).map Vt.o)), .slice B (vts h life n 0 Ls).length d, .int .i64 (choE q (vts h life n 0 Ls).length)]) ∧ Vts w' B (vts h life n 0 Ls) ∧ Below w.heap.size w w' := by
  obtain ⟨N, hN⟩ : ∃ N, N = Ls.length := ⟨_, rfl⟩
  have hml : (vts h life n 0 Ls).length ≤ 1000 := Nat.le_trans (vts_len h life n Ls 0) hb
  have K := svotes_any (c := c) h life n Ls hb hs hh1 hh2 hn1 hn2
  rw [← hN] at K ⊢
  generalize vts h life n 0 Ls = V at K hml ⊢
  obtain ⟨m, hm⟩ : ∃ m, m = V.length := ⟨_, rfl⟩
  have C := Lib.hid (fun (w : World) B d (hv : Vts w B V) => choose_any (w := w) (A := B) (c := d) q V hml hv)
  rw [← hm] at K C ⊢
  generalize cho q (V.map Vt.o) = x at C ⊢
  generalize choE q m = y at C ⊢
  have HK := Lib.hid K
  clear K hN hs hb hh1 hh2 hn1 hn2 hml hm
  go_enter Try.func15, Try.ntmps15
  go_wp2_with fail
  refine HK.out.mono ?_
  rintro e w1 ⟨v, rfl, ho, hb1⟩
  obtain ⟨B, d, rfl, _, _⟩ := own_len ho
  have H1 := Lib.hid (And.intro (show Vts w1 B V from lies_own6 ho) hb1)
  clear ho hb1 HK
  go_wp2_with fail
  refine (C.out _ _ _ H1.out.1).mono ?_
  rintro e w2 ⟨rfl, hb2⟩
  have H2 := Lib.hid (And.intro (H1.out.1.later hb2) (bel_trans H1.out.2 hb2))
  clear hb2 H1
  go_wp2
  exact bodyPost_ret (v := .tuple #[.int .i64 x, .slice B m d, .int .i64 y]) (by simp [results, Try.results15, go_sem]) rfl ⟨_, _, rfl, H2.out.1, H2.out.2⟩
end Go.Proofs.Ytcmmhgalnfleoaa
