/- What Rank answers of texts. -/
import Derived.Test.YtleghbhgddlehaaRank
import Derived.Sort.Walk0
import Derived.Laws.Cover1
namespace Go.Proofs.Ytleghbhgddlehaa
open Go.RowKit Go.Sort

theorem rank_s {w : World} {Ad : Option Addr} {c : Nat} (X : ByteArray) (x : List UInt8) (hx : X.data.toList = x) (xs : List (List UInt8)) (hb : xs.length ≤ 1000000) (h : Lies w Ad (xs.map encStr)) :
    Calls Try.prog 17 #[.string X, .slice Ad xs.length c] w fun e w' => e = .returned (.tuple #[.int .i64 (xs.countP (fun y => decide (y < x)) : Nat), .int .i64 (xs.countP (fun y => leS y x) : Nat)]) ∧ w = w' := by
  obtain ⟨n, hn⟩ : ∃ n, n = xs.length := ⟨_, rfl⟩
  rw [← hn] at hb ⊢
  have HN := Lib.hid hn
  have HC := Lib.hid h
  have HX := Lib.hid hx
  clear h hn hx
  go_enter Try.func17, Try.ntmps17
  go_wp2
  go_loop [6, 7, 12] (fun b u i => ∃ k p q : Nat, k ≤ n ∧ p ≤ k ∧ q ≤ k ∧ Hid (p = (xs.take k).countP (fun y => decide (y < x))) ∧ Hid (q = (xs.take k).countP (fun y => leS y x)) ∧ i = .int .i64 k ∧ b = .int .i64 p ∧ u = .int .i64 q) (fun _ _ i => n - (intOf i).toNat)
  case atStart => exact ⟨0, 0, 0, Nat.zero_le _, Nat.le_refl _, Nat.le_refl _, Lib.hid (by simp), Lib.hid (by simp), rfl, rfl, rfl⟩
  case round =>
    obtain ⟨k, p, q, hk, hp, hq, HP, HQ, rfl, rfl, rfl⟩ := hrel
    by_cases hlt : k < n
    · obtain ⟨y, hy⟩ : ∃ y, xs[k]? = some y := ⟨xs[k]'(by have := HN.out; omega), List.getElem?_eq_getElem _⟩
      obtain ⟨Y, hY⟩ : ∃ Y : ByteArray, Y = ⟨y.toArray⟩ := ⟨_, rfl⟩
      obtain ⟨g, o, rfl, hcell⟩ := HC.out.cell (k := k) (v := .string Y) (by rw [List.getElem?_map, hy, hY]; rfl)
      have hl : Op.bytesLess Y.toList X.toList = decide (y < x) := by rw [bytesLess_eq, Lib.toList_data, Lib.toList_data, HX.out, hY]
      have he : (Y.toList == X.toList) = decide (y = x) := by rw [Lib.toList_data, Lib.toList_data, HX.out, hY, Bool.eq_iff_iff]; simp
      have s1 := count_snoc (fun y => decide (y < x)) xs k y hy
      have s2 := count_snoc (fun y => leS y x) xs k y hy
      rw [← HP.out] at s1
      rw [← HQ.out] at s2
      have S := Lib.hid (And.intro s1 s2)
      clear s1 s2 hy hY
      by_cases c1 : y < x
      · have c2 : leS y x = true := by simp only [leS, decide_eq_true_eq]; exact List.le_of_lt c1
        have hl' : Op.bytesLess Y.toList X.toList = true := by rw [hl]; simp [c1]
        have C := Lib.hid (And.intro c1 c2)
        clear hl he c1 c2
        go_wp2
        go_round
        case rel => exact ⟨k + 1, p + 1, q + 1, by omega, by omega, by omega, Lib.hid (by have := S.out.1; simp only [C.out.1, decide_true, if_true] at this; omega), Lib.hid (by have := S.out.2; rw [C.out.2] at this; simp only [if_true] at this; omega), by go_num, by go_num, by go_num⟩
        case measure => simp [intOf]; omega
      · have hl' : Op.bytesLess Y.toList X.toList = false := by rw [hl]; simp [c1]
        have HE := Lib.hid he
        have C := Lib.hid c1
        clear hl he c1
        go_wp2
        · have hE : (Y.toList == X.toList) = true := by assumption
          have c2 : y = x := by have := HE.out; rw [hE] at this; simpa using this
          have c3 : leS y x = true := by simp only [leS, decide_eq_true_eq, c2]; exact List.le_refl _
          go_round
          case rel => exact ⟨k + 1, p, q + 1, by omega, by omega, by omega, Lib.hid (by have := S.out.1; simp only [C.out, decide_false, Bool.false_eq_true, if_false] at this; omega), Lib.hid (by have := S.out.2; rw [c3] at this; simp only [if_true] at this; omega), by go_num, rfl, by go_num⟩
          case measure => simp [intOf]; omega
        · have hE : (Y.toList == X.toList) = false := by assumption
          have c2 : ¬ y = x := fun h => by have := HE.out; rw [hE] at this; simp [h] at this
          have c3 : leS y x = false := by
            simp only [leS, decide_eq_false_iff_not]
            intro h
            exact c2 (List.le_antisymm h (List.not_lt.1 C.out))
          go_round
          case rel => exact ⟨k + 1, p, q, by omega, by omega, by omega, Lib.hid (by have := S.out.1; simp only [C.out, decide_false, Bool.false_eq_true, if_false] at this; omega), Lib.hid (by have := S.out.2; rw [c3] at this; simp only [Bool.false_eq_true, if_false] at this; omega), by go_num, rfl, rfl⟩
          case measure => simp [intOf]; omega
    · go_wp2
      go_ret2
      have e : xs.take k = xs := List.take_of_length_le (by have := HN.out; omega)
      rw [HP.out, HQ.out, e]
      exact ⟨rfl, rfl⟩
end Go.Proofs.Ytleghbhgddlehaa
