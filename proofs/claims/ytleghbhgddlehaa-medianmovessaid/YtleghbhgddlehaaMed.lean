/- What median's functions answer, at each type that the statements use. -/
import Derived.Test.YtleghbhgddlehaaShelf
import Derived.Test.YtleghbhgddlehaaMem
import Derived.Test.YtleghbhgddlehaaMd
import Derived.Sort.OwnSorted
import Derived.Sort.OwnSortedInts
namespace Go.Proofs.Ytleghbhgddlehaa
open Go.RowKit Go.Sort

/-- Values that lie one behind another. -/
def Lies (w : World) (A : Option Addr) (cs : List Value) : Prop := cs = [] ∨ ∃ g o, A = some ⟨g, o, none⟩ ∧ g < w.heap.size ∧ ∀ j v, cs[j]? = some v → w.cell? ⟨g, o + j, none⟩ = some v
theorem Lies.later {w w' : World} {A : Option Addr} {cs : List Value} (h : Lies w A cs) (hb : Below w.heap.size w w') : Lies w' A cs := by
  rcases h with h | ⟨g, o, ha, hg, hc⟩
  · exact .inl h
  · exact .inr ⟨g, o, ha, by have := hb.size; omega, fun j v hv => (hb.cell (p := ⟨g, _, none⟩) hg).trans (hc j v hv)⟩
theorem Lies.open {w : World} {A : Option Addr} {cs : List Value} (h : Lies w A cs) (h0 : 0 < cs.length) : ∃ g o, A = some ⟨g, o, none⟩ ∧ g < w.heap.size ∧ ∀ j v, cs[j]? = some v → w.cell? ⟨g, o + j, none⟩ = some v := by
  rcases h with rfl | h
  · simp at h0
  · exact h
theorem Lies.cell {w : World} {A : Option Addr} {cs : List Value} {k : Nat} {v : Value} (h : Lies w A cs) (hk : cs[k]? = some v) : ∃ g o, A = some ⟨g, o, none⟩ ∧ w.cell? ⟨g, o + k, none⟩ = some v := by
  obtain ⟨g, o, ha, _, hc⟩ := h.open (by have := (List.getElem?_eq_some_iff.1 hk).1; omega)
  exact ⟨g, o, ha, hc k v hk⟩
theorem lies_own {w : World} {base e n c : Nat} {A : Option Addr} {cs : List Value} (h : w.ownsRow base e 1 (.slice A n c) n cs) : Lies w A cs := by
  have hl : cs.length = n := by have := h.1; omega
  rcases h.2 with ⟨e1, rfl⟩ | ⟨g, cap, cur, e1, hb, hg, rest⟩
  · exact .inl (List.eq_nil_of_length_eq_zero hl)
  · injection e1 with e1 _ e3
    subst e1 e3
    exact .inr ⟨g, 0, rfl, heap_lt hg, fun j v hv => by rw [Nat.zero_add]; exact (h.cellAt j (by have := (List.getElem?_eq_some_iff.1 hv).1; omega)).trans hv⟩
theorem own_cell {w : World} {base e n k : Nat} {v x : Value} {cs : List Value} (h : w.ownsRow base e 1 v n cs) (hx : cs[k]? = some x) : ∃ g c, v = .slice (some ⟨g, 0, none⟩) n c ∧ n ≤ c ∧ w.cell? ⟨g, k, none⟩ = some x := by
  obtain ⟨Ad, c, rfl, hc, _⟩ := own_len h
  obtain ⟨g, rfl, hg⟩ := own_one h hx
  exact ⟨g, c, rfl, hc, hg⟩
theorem getD_of {α : Type} {l : List α} {k : Nat} {d x : α} (h : l[k]? = some x) : l.getD k d = x := by rw [List.getD_eq_getElem?_getD, h]; rfl
theorem map_getD {α : Type} (f : α → Value) (l : List α) (k : Nat) (d : α) (h : k < l.length) : (l.map f)[k]? = some (f (l.getD k d)) := by
  rw [List.getElem?_map, List.getElem?_eq_getElem h, List.getD_eq_getElem?_getD, List.getElem?_eq_getElem h]; rfl
theorem below_sorted {w w1 w2 : World} {p : Nat} (h : Below w.heap.size w w1) (hp : w.heap.size ≤ p) (g : w1.grownBy w2 (some p)) : Below w.heap.size w w2 :=
  ⟨g.os.trans h.os, g.tape.trans h.tape, g.output.trans h.output, Nat.le_trans h.size g.size, fun j hj => (g.block j (by have := h.size; omega) (fun e => by injection e with e; omega)).trans (h.block j hj)⟩
theorem count_snoc {α : Type} (p : α → Bool) (l : List α) (k : Nat) (x : α) (h : l[k]? = some x) : (l.take (k + 1)).countP p = (l.take k).countP p + (if p x = true then 1 else 0) := by
  have hk := (List.getElem?_eq_some_iff.1 h).1
  rw [List.take_succ_eq_append_getElem hk, List.countP_append, List.countP_singleton, (List.getElem?_eq_some_iff.1 h).2]
theorem count_take {α : Type} (p : α → Bool) (l : List α) (k : Nat) : (l.take k).countP p ≤ k := Nat.le_trans List.countP_le_length (List.length_take_le _ _)

/-! int64 -/
theorem info_i : (Try.prog.info? 2).map (fun i => (i.zero, i.size, i.bytes)) = some (some (.int .i64 0), 1, 8) := by kernel_rfl
theorem sorted_i {w : World} {Ad : Option Addr} {c : Nat} (xs : List (Int)) (h0 : 0 < xs.length) (hb : xs.length ≤ 1000000) (h : Lies w Ad (xs.map (Value.int .i64))) :
    Calls Try.prog 11 #[.slice Ad xs.length c] w fun e w' => ∃ v, e = .returned v ∧ w'.ownsRow w.heap.size 2 1 v xs.length ((xs.mergeSort leI).map (Value.int .i64)) ∧ Below w.heap.size w w' := by
  obtain ⟨g, o, rfl, hg, hc⟩ := h.open (by simpa using h0)
  cases hi : Try.prog.info? 2 with
  | none => have := info_i; rw [hi] at this; simp at this
  | some i0 =>
    have hi1 := info_i
    rw [hi] at hi1
    simp only [Option.map_some, Option.some.injEq, Prod.mk.injEq] at hi1
    have K := Lib.hid (Try.slices_Clone_f19 i0 (.int .i64 0) 1 8 hi hi1.1 hi1.2.1 hi1.2.2 (by kernel_rfl) (by omega) Try.sizeOf2 g o xs.length c (xs.map (Value.int .i64)) w (by simp) (by unfold maxLen; omega) (by omega) hc (fun u hu => by obtain ⟨x, _, rfl⟩ := List.mem_map.1 hu; rfl))
    clear hi hi1 hc
    go_enter Try.func11, Try.ntmps11
    go_wp2_with fail
    refine K.out.mono ?_
    rintro e w1 ⟨v, rfl, ho, hne, hb1⟩
    clear K
    rcases ho.2 with ⟨rfl, _⟩ | ⟨p, cap, cur, rfl, hbase, hgp, h1, h2, h3, h4⟩
    · exact absurd rfl hne
    · have K := Lib.hid (Try.slices_Sort_int_f20 p 0 cap xs w1 (holds_of_blockI hgp (by simpa using h4)) (heap_lt hgp) (by omega))
      have H := Lib.hid (And.intro hbase (And.intro hgp (And.intro h1 (And.intro h2 (And.intro h3 hb1)))))
      clear ho hne hb1 hbase hgp h1 h2 h3 h4
      go_wp2_with fail
      refine K.out.mono ?_
      rintro e w2 ⟨rfl, k, os, hw2⟩
      have HW := Lib.hid hw2
      clear hw2 K
      go_wp2
      go_ret
      obtain ⟨hbase, hgp, h1, h2, h3, hb1⟩ := H.out
      refine ⟨_, rfl, ?_, ?_⟩
      · rw [HW.out]
        exact ownsRow_sortedI (by simp) hbase hgp h1 h2 h3
      · have g := grownBy_sortedI (w := w1) (g := p) (n := k) (os := os) (xs.mergeSort leI).toArray
        rw [← HW.out] at g
        exact below_sorted hb1 hbase g

theorem of_i {w : World} {Ad : Option Addr} {c : Nat} (xs : List (Int)) (h0 : 0 < xs.length) (hb : xs.length ≤ 1000000) (h : Lies w Ad (xs.map (Value.int .i64))) :
    Calls Try.prog 9 #[.slice Ad xs.length c] w fun e w' => e = .returned (.tuple #[Value.int .i64 ((xs.mergeSort leI).getD ((xs.length - 1) / 2) 0), .int .i64 0]) ∧ Below w.heap.size w w' := by
  obtain ⟨n, hn⟩ : ∃ n, n = xs.length := ⟨_, rfl⟩
  obtain ⟨k, hk⟩ : ∃ k : Nat, k = (n - 1) / 2 := ⟨_, rfl⟩
  have hkn : k < n := by omega
  have hq : (((n : Int) - 1) / 2) = (k : Int) := by omega
  have K := Lib.hid (sorted_i (c := c) xs h0 hb h)
  rw [← hn] at K hb h0 ⊢
  rw [← hk]
  have hx := map_getD (Value.int .i64) (xs.mergeSort leI) k 0 (by rw [List.length_mergeSort]; omega)
  generalize (xs.mergeSort leI).getD k 0 = m at hx ⊢
  have HX := Lib.hid hx
  clear h hk hn hx
  go_enter Try.func9, Try.ntmps9
  go_wp2_with fail
  refine K.out.mono ?_
  rintro e w1 ⟨v, rfl, ho, hb1⟩
  obtain ⟨g, cp, rfl, hcp, hcell⟩ := own_cell ho HX.out
  have HB := Lib.hid hb1
  clear K hb1 ho HX
  go_wp2
  go_ret2
  exact ⟨rfl, HB.out⟩
theorem of_none_i (w : World) (Ad : Option Addr) (c : Nat) : Calls Try.prog 9 #[.slice Ad 0 c] w fun e w' => e = .returned (.tuple #[.int .i64 0, .int .i64 4]) ∧ w = w' := by
  go_enter Try.func9, Try.ntmps9
  go_wp2
  go_ret2
  exact ⟨rfl, rfl⟩

/-! int -/
theorem info_n : (Try.prog.info? 3).map (fun i => (i.zero, i.size, i.bytes)) = some (some (.int .i64 0), 1, 8) := by kernel_rfl
theorem sorted_n {w : World} {Ad : Option Addr} {c : Nat} (xs : List (Int)) (h0 : 0 < xs.length) (hb : xs.length ≤ 1000000) (h : Lies w Ad (xs.map (Value.int .i64))) :
    Calls Try.prog 24 #[.slice Ad xs.length c] w fun e w' => ∃ v, e = .returned v ∧ w'.ownsRow w.heap.size 3 1 v xs.length ((xs.mergeSort leI).map (Value.int .i64)) ∧ Below w.heap.size w w' := by
  obtain ⟨g, o, rfl, hg, hc⟩ := h.open (by simpa using h0)
  cases hi : Try.prog.info? 3 with
  | none => have := info_n; rw [hi] at this; simp at this
  | some i0 =>
    have hi1 := info_n
    rw [hi] at hi1
    simp only [Option.map_some, Option.some.injEq, Prod.mk.injEq] at hi1
    have K := Lib.hid (Try.slices_Clone_f29 i0 (.int .i64 0) 1 8 hi hi1.1 hi1.2.1 hi1.2.2 (by kernel_rfl) (by omega) Try.sizeOf3 g o xs.length c (xs.map (Value.int .i64)) w (by simp) (by unfold maxLen; omega) (by omega) hc (fun u hu => by obtain ⟨x, _, rfl⟩ := List.mem_map.1 hu; rfl))
    clear hi hi1 hc
    go_enter Try.func24, Try.ntmps24
    go_wp2_with fail
    refine K.out.mono ?_
    rintro e w1 ⟨v, rfl, ho, hne, hb1⟩
    clear K
    rcases ho.2 with ⟨rfl, _⟩ | ⟨p, cap, cur, rfl, hbase, hgp, h1, h2, h3, h4⟩
    · exact absurd rfl hne
    · have K := Lib.hid (Try.slices_Sort_int_f30 p 0 cap xs w1 (holds_of_blockI hgp (by simpa using h4)) (heap_lt hgp) (by omega))
      have H := Lib.hid (And.intro hbase (And.intro hgp (And.intro h1 (And.intro h2 (And.intro h3 hb1)))))
      clear ho hne hb1 hbase hgp h1 h2 h3 h4
      go_wp2_with fail
      refine K.out.mono ?_
      rintro e w2 ⟨rfl, k, os, hw2⟩
      have HW := Lib.hid hw2
      clear hw2 K
      go_wp2
      go_ret
      obtain ⟨hbase, hgp, h1, h2, h3, hb1⟩ := H.out
      refine ⟨_, rfl, ?_, ?_⟩
      · rw [HW.out]
        exact ownsRow_sortedI (by simp) hbase hgp h1 h2 h3
      · have g := grownBy_sortedI (w := w1) (g := p) (n := k) (os := os) (xs.mergeSort leI).toArray
        rw [← HW.out] at g
        exact below_sorted hb1 hbase g

theorem of_n {w : World} {Ad : Option Addr} {c : Nat} (xs : List (Int)) (h0 : 0 < xs.length) (hb : xs.length ≤ 1000000) (h : Lies w Ad (xs.map (Value.int .i64))) :
    Calls Try.prog 18 #[.slice Ad xs.length c] w fun e w' => e = .returned (.tuple #[Value.int .i64 ((xs.mergeSort leI).getD ((xs.length - 1) / 2) 0), .int .i64 0]) ∧ Below w.heap.size w w' := by
  obtain ⟨n, hn⟩ : ∃ n, n = xs.length := ⟨_, rfl⟩
  obtain ⟨k, hk⟩ : ∃ k : Nat, k = (n - 1) / 2 := ⟨_, rfl⟩
  have hkn : k < n := by omega
  have hq : (((n : Int) - 1) / 2) = (k : Int) := by omega
  have K := Lib.hid (sorted_n (c := c) xs h0 hb h)
  rw [← hn] at K hb h0 ⊢
  rw [← hk]
  have hx := map_getD (Value.int .i64) (xs.mergeSort leI) k 0 (by rw [List.length_mergeSort]; omega)
  generalize (xs.mergeSort leI).getD k 0 = m at hx ⊢
  have HX := Lib.hid hx
  clear h hk hn hx
  go_enter Try.func18, Try.ntmps18
  go_wp2_with fail
  refine K.out.mono ?_
  rintro e w1 ⟨v, rfl, ho, hb1⟩
  obtain ⟨g, cp, rfl, hcp, hcell⟩ := own_cell ho HX.out
  have HB := Lib.hid hb1
  clear K hb1 ho HX
  go_wp2
  go_ret2
  exact ⟨rfl, HB.out⟩
theorem of_none_n (w : World) (Ad : Option Addr) (c : Nat) : Calls Try.prog 18 #[.slice Ad 0 c] w fun e w' => e = .returned (.tuple #[.int .i64 0, .int .i64 4]) ∧ w = w' := by
  go_enter Try.func18, Try.ntmps18
  go_wp2
  go_ret2
  exact ⟨rfl, rfl⟩

/-! string -/
theorem info_s : (Try.prog.info? 9).map (fun i => (i.zero, i.size, i.bytes)) = some (some (.string { data := #[] }), 1, 16) := by kernel_rfl
theorem sorted_s {w : World} {Ad : Option Addr} {c : Nat} (xs : List (List UInt8)) (h0 : 0 < xs.length) (hb : xs.length ≤ 1000000) (h : Lies w Ad (xs.map (encStr))) :
    Calls Try.prog 23 #[.slice Ad xs.length c] w fun e w' => ∃ v, e = .returned v ∧ w'.ownsRow w.heap.size 9 1 v xs.length ((xs.mergeSort leS).map (encStr)) ∧ Below w.heap.size w w' := by
  obtain ⟨g, o, rfl, hg, hc⟩ := h.open (by simpa using h0)
  cases hi : Try.prog.info? 9 with
  | none => have := info_s; rw [hi] at this; simp at this
  | some i0 =>
    have hi1 := info_s
    rw [hi] at hi1
    simp only [Option.map_some, Option.some.injEq, Prod.mk.injEq] at hi1
    have K := Lib.hid (Try.slices_Clone_f27 i0 (.string { data := #[] }) 1 16 hi hi1.1 hi1.2.1 hi1.2.2 (by kernel_rfl) (by omega) Try.sizeOf9 g o xs.length c (xs.map (encStr)) w (by simp) (by unfold maxLen; omega) (by omega) hc (fun u hu => by obtain ⟨x, _, rfl⟩ := List.mem_map.1 hu; rfl))
    clear hi hi1 hc
    go_enter Try.func23, Try.ntmps23
    go_wp2_with fail
    refine K.out.mono ?_
    rintro e w1 ⟨v, rfl, ho, hne, hb1⟩
    clear K
    rcases ho.2 with ⟨rfl, _⟩ | ⟨p, cap, cur, rfl, hbase, hgp, h1, h2, h3, h4⟩
    · exact absurd rfl hne
    · have K := Lib.hid (Try.slices_Sort_string p 0 cap xs w1 (holds_of_block hgp (by simpa using h4)) (heap_lt hgp) (by omega))
      have H := Lib.hid (And.intro hbase (And.intro hgp (And.intro h1 (And.intro h2 (And.intro h3 hb1)))))
      clear ho hne hb1 hbase hgp h1 h2 h3 h4
      go_wp2_with fail
      refine K.out.mono ?_
      rintro e w2 ⟨rfl, k, os, hw2⟩
      have HW := Lib.hid hw2
      clear hw2 K
      go_wp2
      go_ret
      obtain ⟨hbase, hgp, h1, h2, h3, hb1⟩ := H.out
      refine ⟨_, rfl, ?_, ?_⟩
      · rw [HW.out]
        exact ownsRow_sorted (by simp) hbase hgp h1 h2 h3
      · have g := grownBy_sorted (w := w1) (g := p) (n := k) (os := os) (xs.mergeSort leS).toArray
        rw [← HW.out] at g
        exact below_sorted hb1 hbase g

theorem of_s {w : World} {Ad : Option Addr} {c : Nat} (xs : List (List UInt8)) (h0 : 0 < xs.length) (hb : xs.length ≤ 1000000) (h : Lies w Ad (xs.map (encStr))) :
    Calls Try.prog 16 #[.slice Ad xs.length c] w fun e w' => e = .returned (.tuple #[encStr ((xs.mergeSort leS).getD ((xs.length - 1) / 2) []), .int .i64 0]) ∧ Below w.heap.size w w' := by
  obtain ⟨n, hn⟩ : ∃ n, n = xs.length := ⟨_, rfl⟩
  obtain ⟨k, hk⟩ : ∃ k : Nat, k = (n - 1) / 2 := ⟨_, rfl⟩
  have hkn : k < n := by omega
  have hq : (((n : Int) - 1) / 2) = (k : Int) := by omega
  have K := Lib.hid (sorted_s (c := c) xs h0 hb h)
  rw [← hn] at K hb h0 ⊢
  rw [← hk]
  have hx := map_getD (encStr) (xs.mergeSort leS) k [] (by rw [List.length_mergeSort]; omega)
  generalize (xs.mergeSort leS).getD k [] = m at hx ⊢
  have HX := Lib.hid hx
  clear h hk hn hx
  go_enter Try.func16, Try.ntmps16
  go_wp2_with fail
  refine K.out.mono ?_
  rintro e w1 ⟨v, rfl, ho, hb1⟩
  obtain ⟨g, cp, rfl, hcp, hcell⟩ := own_cell ho HX.out
  have HB := Lib.hid hb1
  clear K hb1 ho HX
  go_wp2
  go_ret2
  exact ⟨rfl, HB.out⟩
theorem of_none_s (w : World) (Ad : Option Addr) (c : Nat) : Calls Try.prog 16 #[.slice Ad 0 c] w fun e w' => e = .returned (.tuple #[.string { data := #[] }, .int .i64 4]) ∧ w = w' := by
  go_enter Try.func16, Try.ntmps16
  go_wp2
  go_ret2
  exact ⟨rfl, rfl⟩
end Go.Proofs.Ytleghbhgddlehaa
