/- What median's functions answer, at each type that the statements use. -/
import Derived.Test.YtjjcoblbiagflaaGreatShelf
import Derived.Test.YtjjcoblbiagflaaGreatLie
import Derived.Test.YtjjcoblbiagflaaGreatMd
import Derived.Sort.OwnSorted
import Derived.Sort.OwnSortedInts
namespace Go.Proofs.YtjjcoblbiagflaaGreat
open Go.RowKit Go.Sort

/-! int64 -/
theorem sorted_i {w : World} {Ad : Option Addr} {c : Nat} (xs : List (Int)) (h0 : 0 < xs.length) (hb : xs.length ≤ 1000000) (h : Lies w Ad (xs.map (Value.int .i64))) :
    Calls Tryz.prog 11 #[.slice Ad xs.length c] w fun e w' => ∃ v, e = .returned v ∧ w'.ownsRow w.heap.size 2 1 v xs.length ((xs.mergeSort leI).map (Value.int .i64)) ∧ Below w.heap.size w w' := by
  obtain ⟨g, o, rfl, hg, hc⟩ := h.open (by simpa using h0)
  cases hi : Tryz.prog.info? 2 with
  | none => have := info_i; rw [hi] at this; simp at this
  | some i0 =>
    have hi1 := info_i
    rw [hi] at hi1
    simp only [Option.map_some, Option.some.injEq, Prod.mk.injEq] at hi1
    have K := Lib.hid (Tryz.slices_Clone_f18 i0 (.int .i64 0) 1 8 hi hi1.1 hi1.2.1 hi1.2.2 (by kernel_rfl) (by omega) Tryz.sizeOf2 g o xs.length c (xs.map (Value.int .i64)) w (by simp) (by unfold maxLen; omega) (by omega) hc (fun u hu => by obtain ⟨x, _, rfl⟩ := List.mem_map.1 hu; rfl))
    clear hi hi1 hc
    go_enter Tryz.func11, Tryz.ntmps11
    go_wp2_with fail
    refine K.out.mono ?_
    rintro e w1 ⟨v, rfl, ho, hne, hb1⟩
    clear K
    rcases ho.2 with ⟨rfl, _⟩ | ⟨p, cap, cur, rfl, hbase, hgp, h1, h2, h3, h4⟩
    · exact absurd rfl hne
    · have K := Lib.hid (Tryz.slices_Sort_int_f19 p 0 cap xs w1 (holds_of_blockI hgp (by simpa using h4)) (heap_lt hgp) (by omega))
      have H := Lib.hid (And.intro hbase (And.intro hgp (And.intro h1 (And.intro h2 (And.intro h3 hb1)))))
      clear ho hne hb1 hbase hgp h1 h2 h3 h4
      go_wp2_with fail
      refine K.out.mono ?_
      rintro e w2 ⟨rfl, k, os, hw2⟩
      have HW := Lib.hid hw2
      clear hw2 K
      go_wp2
      go_ret
      obtain ⟨hbase, hgp, h1, h2, h3, hb1⟩ := H.out
      refine ⟨_, rfl, ?_, ?_⟩
      · rw [HW.out]
        exact ownsRow_sortedI (by simp) hbase hgp h1 h2 h3
      · have g := grownBy_sortedI (w := w1) (g := p) (n := k) (os := os) (xs.mergeSort leI).toArray
        rw [← HW.out] at g
        exact below_sorted hb1 hbase g

theorem of_i {w : World} {Ad : Option Addr} {c : Nat} (xs : List (Int)) (h0 : 0 < xs.length) (hb : xs.length ≤ 1000000) (h : Lies w Ad (xs.map (Value.int .i64))) :
    Calls Tryz.prog 5 #[.slice Ad xs.length c] w fun e w' => e = .returned (.tuple #[Value.int .i64 ((xs.mergeSort leI).getD ((xs.length - 1) / 2) 0), .int .i64 0]) ∧ Below w.heap.size w w' := by
  obtain ⟨n, hn⟩ : ∃ n, n = xs.length := ⟨_, rfl⟩
  obtain ⟨k, hk⟩ : ∃ k : Nat, k = (n - 1) / 2 := ⟨_, rfl⟩
  have hkn : k < n := by omega
  have hq : (((n : Int) - 1) / 2) = (k : Int) := by omega
  have K := Lib.hid (sorted_i (c := c) xs h0 hb h)
  rw [← hn] at K hb h0 ⊢
  rw [← hk]
  have hx := map_getD (Value.int .i64) (xs.mergeSort leI) k 0 (by rw [List.length_mergeSort]; omega)
  generalize (xs.mergeSort leI).getD k 0 = m at hx ⊢
  have HX := Lib.hid hx
  clear h hk hn hx
  go_enter Tryz.func5, Tryz.ntmps5
  go_wp2_with fail
  refine K.out.mono ?_
  rintro e w1 ⟨v, rfl, ho, hb1⟩
  obtain ⟨g, cp, rfl, hcp, hcell⟩ := own_cell ho HX.out
  have HB := Lib.hid hb1
  clear K hb1 ho HX
  go_wp2
  go_ret2
  exact ⟨rfl, HB.out⟩
theorem of_none_i (w : World) (Ad : Option Addr) (c : Nat) : Calls Tryz.prog 5 #[.slice Ad 0 c] w fun e w' => e = .returned (.tuple #[.int .i64 0, .int .i64 4]) ∧ w = w' := by
  go_enter Tryz.func5, Tryz.ntmps5
  go_wp2
  go_ret2
  exact ⟨rfl, rfl⟩

/-! int -/
theorem sorted_n {w : World} {Ad : Option Addr} {c : Nat} (xs : List (Int)) (h0 : 0 < xs.length) (hb : xs.length ≤ 1000000) (h : Lies w Ad (xs.map (Value.int .i64))) :
    Calls Tryz.prog 16 #[.slice Ad xs.length c] w fun e w' => ∃ v, e = .returned v ∧ w'.ownsRow w.heap.size 3 1 v xs.length ((xs.mergeSort leI).map (Value.int .i64)) ∧ Below w.heap.size w w' := by
  obtain ⟨g, o, rfl, hg, hc⟩ := h.open (by simpa using h0)
  cases hi : Tryz.prog.info? 3 with
  | none => have := info_n; rw [hi] at this; simp at this
  | some i0 =>
    have hi1 := info_n
    rw [hi] at hi1
    simp only [Option.map_some, Option.some.injEq, Prod.mk.injEq] at hi1
    have K := Lib.hid (Tryz.slices_Clone_f24 i0 (.int .i64 0) 1 8 hi hi1.1 hi1.2.1 hi1.2.2 (by kernel_rfl) (by omega) Tryz.sizeOf3 g o xs.length c (xs.map (Value.int .i64)) w (by simp) (by unfold maxLen; omega) (by omega) hc (fun u hu => by obtain ⟨x, _, rfl⟩ := List.mem_map.1 hu; rfl))
    clear hi hi1 hc
    go_enter Tryz.func16, Tryz.ntmps16
    go_wp2_with fail
    refine K.out.mono ?_
    rintro e w1 ⟨v, rfl, ho, hne, hb1⟩
    clear K
    rcases ho.2 with ⟨rfl, _⟩ | ⟨p, cap, cur, rfl, hbase, hgp, h1, h2, h3, h4⟩
    · exact absurd rfl hne
    · have K := Lib.hid (Tryz.slices_Sort_int p 0 cap xs w1 (holds_of_blockI hgp (by simpa using h4)) (heap_lt hgp) (by omega))
      have H := Lib.hid (And.intro hbase (And.intro hgp (And.intro h1 (And.intro h2 (And.intro h3 hb1)))))
      clear ho hne hb1 hbase hgp h1 h2 h3 h4
      go_wp2_with fail
      refine K.out.mono ?_
      rintro e w2 ⟨rfl, k, os, hw2⟩
      have HW := Lib.hid hw2
      clear hw2 K
      go_wp2
      go_ret
      obtain ⟨hbase, hgp, h1, h2, h3, hb1⟩ := H.out
      refine ⟨_, rfl, ?_, ?_⟩
      · rw [HW.out]
        exact ownsRow_sortedI (by simp) hbase hgp h1 h2 h3
      · have g := grownBy_sortedI (w := w1) (g := p) (n := k) (os := os) (xs.mergeSort leI).toArray
        rw [← HW.out] at g
        exact below_sorted hb1 hbase g

theorem of_n {w : World} {Ad : Option Addr} {c : Nat} (xs : List (Int)) (h0 : 0 < xs.length) (hb : xs.length ≤ 1000000) (h : Lies w Ad (xs.map (Value.int .i64))) :
    Calls Tryz.prog 9 #[.slice Ad xs.length c] w fun e w' => e = .returned (.tuple #[Value.int .i64 ((xs.mergeSort leI).getD ((xs.length - 1) / 2) 0), .int .i64 0]) ∧ Below w.heap.size w w' := by
  obtain ⟨n, hn⟩ : ∃ n, n = xs.length := ⟨_, rfl⟩
  obtain ⟨k, hk⟩ : ∃ k : Nat, k = (n - 1) / 2 := ⟨_, rfl⟩
  have hkn : k < n := by omega
  have hq : (((n : Int) - 1) / 2) = (k : Int) := by omega
  have K := Lib.hid (sorted_n (c := c) xs h0 hb h)
  rw [← hn] at K hb h0 ⊢
  rw [← hk]
  have hx := map_getD (Value.int .i64) (xs.mergeSort leI) k 0 (by rw [List.length_mergeSort]; omega)
  generalize (xs.mergeSort leI).getD k 0 = m at hx ⊢
  have HX := Lib.hid hx
  clear h hk hn hx
  go_enter Tryz.func9, Tryz.ntmps9
  go_wp2_with fail
  refine K.out.mono ?_
  rintro e w1 ⟨v, rfl, ho, hb1⟩
  obtain ⟨g, cp, rfl, hcp, hcell⟩ := own_cell ho HX.out
  have HB := Lib.hid hb1
  clear K hb1 ho HX
  go_wp2
  go_ret2
  exact ⟨rfl, HB.out⟩
theorem of_none_n (w : World) (Ad : Option Addr) (c : Nat) : Calls Tryz.prog 9 #[.slice Ad 0 c] w fun e w' => e = .returned (.tuple #[.int .i64 0, .int .i64 4]) ∧ w = w' := by
  go_enter Tryz.func9, Tryz.ntmps9
  go_wp2
  go_ret2
  exact ⟨rfl, rfl⟩

/-! string -/
theorem sorted_s {w : World} {Ad : Option Addr} {c : Nat} (xs : List (List UInt8)) (h0 : 0 < xs.length) (hb : xs.length ≤ 1000000) (h : Lies w Ad (xs.map (encStr))) :
    Calls Tryz.prog 17 #[.slice Ad xs.length c] w fun e w' => ∃ v, e = .returned v ∧ w'.ownsRow w.heap.size 9 1 v xs.length ((xs.mergeSort leS).map (encStr)) ∧ Below w.heap.size w w' := by
  obtain ⟨g, o, rfl, hg, hc⟩ := h.open (by simpa using h0)
  cases hi : Tryz.prog.info? 9 with
  | none => have := info_s; rw [hi] at this; simp at this
  | some i0 =>
    have hi1 := info_s
    rw [hi] at hi1
    simp only [Option.map_some, Option.some.injEq, Prod.mk.injEq] at hi1
    have K := Lib.hid (Tryz.slices_Clone_f26 i0 (.string { data := #[] }) 1 16 hi hi1.1 hi1.2.1 hi1.2.2 (by kernel_rfl) (by omega) Tryz.sizeOf9 g o xs.length c (xs.map (encStr)) w (by simp) (by unfold maxLen; omega) (by omega) hc (fun u hu => by obtain ⟨x, _, rfl⟩ := List.mem_map.1 hu; rfl))
    clear hi hi1 hc
    go_enter Tryz.func17, Tryz.ntmps17
    go_wp2_with fail
    refine K.out.mono ?_
    rintro e w1 ⟨v, rfl, ho, hne, hb1⟩
    clear K
    rcases ho.2 with ⟨rfl, _⟩ | ⟨p, cap, cur, rfl, hbase, hgp, h1, h2, h3, h4⟩
    · exact absurd rfl hne
    · have K := Lib.hid (Tryz.slices_Sort_string p 0 cap xs w1 (holds_of_block hgp (by simpa using h4)) (heap_lt hgp) (by omega))
      have H := Lib.hid (And.intro hbase (And.intro hgp (And.intro h1 (And.intro h2 (And.intro h3 hb1)))))
      clear ho hne hb1 hbase hgp h1 h2 h3 h4
      go_wp2_with fail
      refine K.out.mono ?_
      rintro e w2 ⟨rfl, k, os, hw2⟩
      have HW := Lib.hid hw2
      clear hw2 K
      go_wp2
      go_ret
      obtain ⟨hbase, hgp, h1, h2, h3, hb1⟩ := H.out
      refine ⟨_, rfl, ?_, ?_⟩
      · rw [HW.out]
        exact ownsRow_sorted (by simp) hbase hgp h1 h2 h3
      · have g := grownBy_sorted (w := w1) (g := p) (n := k) (os := os) (xs.mergeSort leS).toArray
        rw [← HW.out] at g
        exact below_sorted hb1 hbase g

theorem of_s {w : World} {Ad : Option Addr} {c : Nat} (xs : List (List UInt8)) (h0 : 0 < xs.length) (hb : xs.length ≤ 1000000) (h : Lies w Ad (xs.map (encStr))) :
    Calls Tryz.prog 10 #[.slice Ad xs.length c] w fun e w' => e = .returned (.tuple #[encStr ((xs.mergeSort leS).getD ((xs.length - 1) / 2) []), .int .i64 0]) ∧ Below w.heap.size w w' := by
  obtain ⟨n, hn⟩ : ∃ n, n = xs.length := ⟨_, rfl⟩
  obtain ⟨k, hk⟩ : ∃ k : Nat, k = (n - 1) / 2 := ⟨_, rfl⟩
  have hkn : k < n := by omega
  have hq : (((n : Int) - 1) / 2) = (k : Int) := by omega
  have K := Lib.hid (sorted_s (c := c) xs h0 hb h)
  rw [← hn] at K hb h0 ⊢
  rw [← hk]
  have hx := map_getD (encStr) (xs.mergeSort leS) k [] (by rw [List.length_mergeSort]; omega)
  generalize (xs.mergeSort leS).getD k [] = m at hx ⊢
  have HX := Lib.hid hx
  clear h hk hn hx
  go_enter Tryz.func10, Tryz.ntmps10
  go_wp2_with fail
  refine K.out.mono ?_
  rintro e w1 ⟨v, rfl, ho, hb1⟩
  obtain ⟨g, cp, rfl, hcp, hcell⟩ := own_cell ho HX.out
  have HB := Lib.hid hb1
  clear K hb1 ho HX
  go_wp2
  go_ret2
  exact ⟨rfl, HB.out⟩
theorem of_none_s (w : World) (Ad : Option Addr) (c : Nat) : Calls Tryz.prog 10 #[.slice Ad 0 c] w fun e w' => e = .returned (.tuple #[.string { data := #[] }, .int .i64 4]) ∧ w = w' := by
  go_enter Tryz.func10, Tryz.ntmps10
  go_wp2
  go_ret2
  exact ⟨rfl, rfl⟩
end Go.Proofs.YtjjcoblbiagflaaGreat
