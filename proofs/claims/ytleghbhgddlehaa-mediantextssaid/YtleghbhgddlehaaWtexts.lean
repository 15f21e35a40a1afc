/- MedianTexts' walk. -/
import Derived.Test.YtleghbhgddlehaaRanks
import Derived.Test.YtleghbhgddlehaaOpen
namespace Go.Proofs.Ytleghbhgddlehaa
open Go.RowKit Go.Sort

theorem countS_lt (l : List (List UInt8)) (m : List UInt8) : l.countP (fun x => !leS m x) = l.countP (fun x => decide (x < m)) := by
  congr 1; funext x
  rw [Bool.eq_iff_iff]
  simp only [leS, Bool.not_eq_true', decide_eq_false_iff_not, decide_eq_true_eq]
  exact List.not_le

set_option maxRecDepth 100000 in
set_option maxHeartbeats 4000000 in
theorem walk_texts (A : Option Addr) (len cap : Nat) (w : World) (hz : ActsIn w A len cap) :
    Calls Try.prog 4 #[.slice A len cap] w fun e w' => e = .returned (.bool true) ∧ Below w.heap.size w w' := by
  obtain ⟨l1, l2, xs, hl, hx⟩ := hz
  have m1 : cap ≤ 9223372036854775807 := by unfold maxLen at l2; omega
  have Z := Lib.hid (And.intro hl hx)
  clear hl hx l2
  go_enter Try.func4, Try.ntmps4
  go_wp2_with fail
  refine (alive_any w).mono ?_
  rintro e w1 ⟨rfl, hb1⟩
  have H1 := Lib.hid hb1
  clear hb1
  by_cases q1 : 200 < len
  · go_wp2_with fail
    refine (alive_any _).mono ?_
    rintro e w2 ⟨rfl, hb2⟩
    have H2 := Lib.hid (bel_trans H1.out hb2)
    clear hb2 H1
    go_wp2
    go_ret
    exact ⟨rfl, H2.out⟩
  by_cases q0 : len = 0
  · subst q0
    go_wp2_with fail
    refine (of_none_s _ _ _).mono ?_
    rintro e w2 ⟨rfl, rfl⟩
    go_wp2
    go_ret
    exact ⟨by simp, H1.out⟩
  have q2 : 0 < len := by omega
  have q3 : len ≤ 200 := by omega
  clear q1 q0
  have K := of_s (w := w1) (Ad := A) (c := cap) xs (by have := Z.out.1; omega) (by have := Z.out.1; omega) (Z.out.2.later H1.out)
  have ha := srt_at totS xs ((xs.length - 1) / 2) [] (by have := Z.out.1; omega)
  generalize (xs.mergeSort leS).getD ((xs.length - 1) / 2) [] = m at K ha
  obtain ⟨X, hX⟩ : ∃ X : ByteArray, X = ⟨m.toArray⟩ := ⟨_, rfl⟩
  rw [show encStr m = Value.string X by rw [hX], Z.out.1] at K
  have HK := Lib.hid K
  have HX := Lib.hid (show X.data.toList = m by rw [hX])
  have HA := Lib.hid ha
  clear K hX ha
  go_wp2_with fail
  refine HK.out.mono ?_
  rintro e w2 ⟨rfl, hb2⟩
  have H2 := Lib.hid (bel_trans H1.out hb2)
  clear hb2 H1 HK
  have K := rank_s (w := w2) (Ad := A) (c := cap) X m HX.out xs (by have := Z.out.1; omega) (Z.out.2.later H2.out)
  obtain ⟨p, hp⟩ : ∃ p, p = xs.countP (fun y => decide (y < m)) := ⟨_, rfl⟩
  obtain ⟨q, hq⟩ : ∃ q, q = xs.countP (fun y => leS y m) := ⟨_, rfl⟩
  rw [← hp, ← hq, Z.out.1] at K
  obtain ⟨t, ht⟩ : ∃ t : Nat, t = (len - 1) / 2 := ⟨_, rfl⟩
  have hpt : p ≤ t := by have := HA.out.1; rw [countS_lt, ← hp, Z.out.1] at this; omega
  have hqt : t < q := by have := HA.out.2; rw [← hq, Z.out.1] at this; omega
  have hdv : ((len : Int) - 1) / 2 = (t : Int) := by omega
  have HM : Hid (m ∈ xs) := Lib.hid (HA.out.mem totS)
  have HK := Lib.hid K
  have HD := Lib.hid hdv
  clear K hp hq ht hdv HA
  go_wp2_with fail
  refine HK.out.mono ?_
  rintro e w3 ⟨rfl, rfl⟩
  clear HK
  have HL := Lib.hid (Z.out.2.later H2.out)
  go_wp2
  go_loop [7, 41] (fun th i => ∃ (k : Nat) (b : Bool), k ≤ len ∧ i = .int .i64 k ∧ th = .bool b ∧ Hid (b = decide (m ∈ xs.take k))) (fun _ i => len - (intOf i).toNat)
  case atStart => exact ⟨0, false, Nat.zero_le _, rfl, rfl, Lib.hid (by simp)⟩
  case round =>
    obtain ⟨k, b, hk, rfl, rfl, HB⟩ := hrel
    by_cases hlt : k < len
    · obtain ⟨y, hy⟩ : ∃ y, xs[k]? = some y := ⟨xs[k]'(by have := Z.out.1; omega), List.getElem?_eq_getElem _⟩
      obtain ⟨Y, hY⟩ : ∃ Y : ByteArray, Y = ⟨y.toArray⟩ := ⟨_, rfl⟩
      obtain ⟨g, o, rfl, hcell⟩ := HL.out.cell (k := k) (v := .string Y) (by rw [List.getElem?_map, hy, hY]; rfl)
      have he : (Y.toList == X.toList) = decide (y = m) := by rw [Lib.toList_data, Lib.toList_data, HX.out, hY, Bool.eq_iff_iff]; simp
      have HE := Lib.hid he
      have HS : Hid (xs.take (k + 1) = xs.take k ++ [y]) := Lib.hid (by rw [List.take_succ_eq_append_getElem (by have := Z.out.1; omega), (List.getElem?_eq_some_iff.1 hy).2])
      clear he hy hY
      cases b
      · go_wp2
        go_round
        case rel => exact ⟨k + 1, _, by omega, by go_num, rfl, Lib.hid (by rw [HE.out, HS.out]; have := HB.out; simp at this; simp [this, eq_comm])⟩
        case measure => simp [intOf]; omega
      · go_wp2
        go_round
        case rel => exact ⟨k + 1, true, by omega, by go_num, rfl, Lib.hid (by rw [HS.out]; have := HB.out; simp at this; simp [this])⟩
        case measure => simp [intOf]; omega
    · obtain rfl : b = true := by rw [HB.out, List.take_of_length_le (by have := Z.out.1; omega)]; simpa using HM.out
      have hdv := HD.out
      go_wp2
      go_ret
      exact ⟨by simp, H2.out⟩
end Go.Proofs.Ytleghbhgddlehaa
