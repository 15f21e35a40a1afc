/- slices.Sort, median.Sorted, median.Of at float64. -/
import Derived.Test.YtjjcoblbiagflaaGreatPdqF
import Derived.Test.YtjjcoblbiagflaaGreatXor
import Derived.Test.YtjjcoblbiagflaaGreatShelf
namespace Go.Proofs.YtjjcoblbiagflaaGreat.kf
open Go.RowKit

theorem swo : Sort.SWO lt := by
  refine ⟨fun x => ?_, fun x y z h1 h2 => ?_, fun x y z h1 h2 => ?_⟩ <;> simp only [lt, decide_eq_true_eq, decide_eq_false_iff_not] at * <;> omega
theorem bitLenAux_le : ∀ f x, Lib.bitLenAux f x ≤ f := by
  intro f
  induction f with
  | zero => intro x; exact Nat.le_refl _
  | succ f ih =>
    intro x
    unfold Lib.bitLenAux
    split
    · omega
    · have := ih (x / 2); omega
theorem info_k : (Tryz.prog.info? 28).map (fun i => (i.zero, i.size, i.bytes)) = some (some (.float .f64 0), 1, 8) := by kernel_rfl

set_option maxRecDepth 100000 in
set_option maxHeartbeats 4000000 in
theorem sort_any (B n cap : Nat) (tl : Array Value) (d : Array A) (w : World) (h : Rw enc T tl w B d) (hn : d.size = n) (hs : n ≤ 1000000) :
    Calls Tryz.prog 21 #[.slice (some ⟨B, 0, none⟩) n cap] w fun e w' => e = .returned (.tuple #[]) ∧ ∃ D : Array A, Sort.PermIn 0 n d D ∧ Sort.SortedIn lt 0 n D ∧ Rw enc T tl w' B D ∧ But B w w' := by
  obtain ⟨l, hl⟩ : ∃ l, Lib.bitLen n = l := ⟨_, rfl⟩
  have hl2 : l ≤ 64 := by rw [← hl]; exact bitLenAux_le 64 n
  have KB := Lib.hid (fun w => Tryz.bits_Len (n : Int) w (by omega) (by omega))
  rw [Int.toNat_natCast, hl] at KB
  have K := pdq_any swo np_any nx_any (n + 1) B n cap 0 n l tl d w (by omega) h hn hs (Nat.zero_le _) (Nat.le_refl _) (by omega) (.inl rfl)
  rw [show ((0 : Nat) : Int) = 0 from rfl] at K
  have KP := Lib.hid K
  have P := Lib.hid (Sort.pdq_sorts lt swo d 0 n l true true (Nat.zero_le _) (by omega) (.inl rfl))
  have hwu : IntKind.u64.wrap (n : Int) = (n : Int) := by simp only [IntKind.wrap_u64]; omega
  clear K h hn hl
  go_enter Tryz.func21, Tryz.ntmps21
  go_wp2_with fail
  refine (KB.out _).mono ?_
  rintro e w1 ⟨rfl, rfl⟩
  go_wp2_with fail
  refine KP.out.mono ?_
  rintro e w2 ⟨rfl, g1, g2⟩
  have G := Lib.hid (And.intro g1 g2)
  clear g1 g2 KP KB
  go_wp2
  go_end0
  exact ⟨rfl, _, P.out.1, P.out.2, G.out.1, G.out.2⟩

set_option maxRecDepth 100000 in
set_option maxHeartbeats 4000000 in
theorem sorted_any {w : World} {g o c n : Nat} (xs : List A) (hn : xs.length = n) (h0 : 0 < n) (hb : n ≤ 1000000) (hc : ∀ (j : Nat) u, (xs.map enc)[j]? = some u → w.cell? ⟨g, o + j, none⟩ = some u) :
    Calls Tryz.prog 12 #[.slice (some ⟨g, o, none⟩) n c] w fun e w' => ∃ (p cap : Nat) (D : Array A) (tl : Array Value), e = .returned (.slice (some ⟨p, 0, none⟩) n cap) ∧ n ≤ cap ∧ Sort.PermIn 0 n xs.toArray D ∧ Sort.SortedIn lt 0 n D ∧ Rw enc T tl w' p D ∧ Below w.heap.size w w' := by
  cases hi : Tryz.prog.info? 28 with
  | none => have := info_k; rw [hi] at this; simp at this
  | some i0 =>
    have hi1 := info_k
    rw [hi] at hi1
    simp only [Option.map_some, Option.some.injEq, Prod.mk.injEq] at hi1
    have K := Lib.hid (Tryz.slices_Clone_f20 i0 (.float .f64 0) 1 8 hi hi1.1 hi1.2.1 hi1.2.2 (by kernel_rfl) (by omega) Tryz.sizeOf28 g o n c (xs.map enc) w (by simp [hn]) (by unfold maxLen; omega) (by omega) hc (fun u hu => by obtain ⟨x, _, rfl⟩ := List.mem_map.1 hu; exact enc_one x))
    have HN := Lib.hid hn
    clear hi hi1 hc hn
    go_enter Tryz.func12, Tryz.ntmps12
    go_wp2_with fail
    refine K.out.mono ?_
    rintro e w1 ⟨v, rfl, ho, hne, hb1⟩
    clear K
    rcases ho.2 with ⟨rfl, _⟩ | ⟨p, cap, cur, rfl, hbase, hgp, h1, h2, h3, h4⟩
    · exact absurd rfl hne
    · rw [Nat.mul_one] at h4
      have hcur : xs.toArray.map enc ++ (cur.toList.drop n).toArray = cur := by
        apply Array.toList_inj.1
        simp only [Array.toList_append, Array.toList_map]
        rw [← h4]
        exact List.take_append_drop n cur.toList
      have hr : Rw enc T (cur.toList.drop n).toArray w1 p xs.toArray := by
        unfold Rw
        rw [hcur]
        exact hgp
      have K := Lib.hid (sort_any p n cap _ xs.toArray w1 hr (by simp [HN.out]) hb)
      have H := Lib.hid (And.intro hbase hb1)
      clear ho hne hb1 hbase hgp h2 h3 h4 hcur hr
      go_wp2_with fail
      refine K.out.mono ?_
      rintro e w2 ⟨rfl, D, d1, d2, d3, d4⟩
      have G := Lib.hid (And.intro d1 (And.intro d2 (And.intro d3 d4)))
      clear d1 d2 d3 d4 K
      go_wp2
      go_ret
      exact ⟨p, cap, D, _, rfl, h1, G.out.1, G.out.2.1, G.out.2.2.1, H.out.2.trans (G.out.2.2.2.below H.out.2.size H.out.1)⟩

set_option maxRecDepth 100000 in
set_option maxHeartbeats 4000000 in
theorem of_any {w : World} {g o c n : Nat} (xs : List A) (hn : xs.length = n) (h0 : 0 < n) (hb : n ≤ 1000000) (hc : ∀ (j : Nat) u, (xs.map enc)[j]? = some u → w.cell? ⟨g, o + j, none⟩ = some u) :
    Calls Tryz.prog 6 #[.slice (some ⟨g, o, none⟩) n c] w fun e w' => ∃ D : Array A, Sort.PermIn 0 n xs.toArray D ∧ Sort.SortedIn lt 0 n D ∧ e = .returned (.tuple #[enc D[(n - 1) / 2]!, .int .i64 0]) ∧ Below w.heap.size w w' := by
  obtain ⟨k, hk⟩ : ∃ k : Nat, (n - 1) / 2 = k := ⟨_, rfl⟩
  have hkn : k < n := by omega
  have hq : (((n : Int) - 1).tdiv 2) = (k : Int) := by rw [Int.tdiv_eq_ediv_of_nonneg (by omega)]; omega
  have hq2 : (((n : Int) - 1) / 2) = (k : Int) := by omega
  have hw3 : IntKind.i64.wrap (k : Int) = (k : Int) := IntWalk.i64_in _ (by omega)
  have K := Lib.hid (sorted_any (c := c) xs hn h0 hb hc)
  have HN := Lib.hid hn
  rw [hk]
  clear hc hk hn
  go_enter Tryz.func6, Tryz.ntmps6
  go_wp2_with fail
  refine K.out.mono ?_
  rintro e w1 ⟨p, cap, D, tl, rfl, hcap, d1, d2, d3, d4⟩
  have hcell := d3.cell k (by have := d1.1; simp only [List.size_toArray, HN.out] at this; omega)
  obtain ⟨y, hy⟩ := enc_ex D[k]!
  rw [hy] at hcell
  have G := Lib.hid (And.intro d1 (And.intro d2 (And.intro hy d4)))
  clear d1 d2 d3 d4 K hy
  go_wp2
  go_ret2
  exact ⟨D, G.out.1, G.out.2.1, by rw [G.out.2.2.1]; rfl, G.out.2.2.2⟩
theorem of_none (w : World) (Ad : Option Addr) (c : Nat) : Calls Tryz.prog 6 #[.slice Ad 0 c] w fun e w' => e = .returned (.tuple #[.float .f64 0, .int .i64 4]) ∧ w = w' := by
  go_enter Tryz.func6, Tryz.ntmps6
  go_wp2
  go_ret2
  exact ⟨rfl, rfl⟩
end Go.Proofs.YtjjcoblbiagflaaGreat.kf
