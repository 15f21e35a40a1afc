/- The guards' own median. -/
import Derived.Test.YtjjcoblbiagflaaGreatMed
namespace Go.Proofs.YtjjcoblbiagflaaGreat
open Go.RowKit Go.Sort

theorem lies_new (w : World) (cs : List Value) (t : TypeId) : Lies (w.alloc (.cells cs.toArray t)) (some ⟨w.heap.size, 0, none⟩) cs := by
  refine .inr ⟨_, _, rfl, by simp, fun j v hv => ?_⟩
  rw [cell_of_row _ _ _ _ _ _ (heap_alloc_new w _)]
  simpa using hv
theorem mid_ex : ([5, 1, 9].mergeSort leI).getD 1 0 = 5 := (srt_at totI [5, 1, 9] 1 0 (by decide)).unique totI ⟨by decide, by decide⟩
theorem mid_exs : ([[53], [49], [57], [55]].mergeSort leS).getD 1 [] = [53] := (srt_at totS [[53], [49], [57], [55]] 1 [] (by decide)).unique totS ⟨by decide, by decide⟩
set_option maxHeartbeats 1000000 in
theorem alive_any (w : World) : Calls Tryz.prog 4 #[] w fun e w' => e = .returned (.bool true) ∧ Below w.heap.size w w' := by
  obtain ⟨W, hW⟩ : ∃ W, W = w.alloc (.cells #[.int .i64 5, .int .i64 1, .int .i64 9] 3) := ⟨_, rfl⟩
  have hbW : Below w.heap.size w W := by rw [hW]; exact (Below.refl _ _).alloc (Nat.le_refl _) _
  have K := of_n (w := W) (Ad := some ⟨w.heap.size, 0, none⟩) (c := 3) [5, 1, 9] (by decide) (by decide) (by rw [hW]; exact lies_new w _ 3)
  rw [show (([5, 1, 9] : List Int).mergeSort leI).getD ((([5, 1, 9] : List Int).length - 1) / 2) 0 = 5 from mid_ex] at K
  have HK := Lib.hid K
  have HB := Lib.hid hbW
  clear K hbW
  go_enter Tryz.func4, Tryz.ntmps4
  go_wp2_with fail
  rw [← hW]
  have HW := Lib.hid hW
  clear hW
  refine HK.out.mono ?_
  rintro e w1 ⟨rfl, hb1⟩
  have HB1 := Lib.hid (bel_trans HB.out hb1)
  clear hb1 HK
  obtain ⟨W1, hW1⟩ : ∃ W1, W1 = w1.alloc (.cells #[.string ⟨#[53]⟩, .string ⟨#[49]⟩, .string ⟨#[57]⟩, .string ⟨#[55]⟩] 9) := ⟨_, rfl⟩
  have hbW1 : Below w1.heap.size w1 W1 := by rw [hW1]; exact (Below.refl _ _).alloc (Nat.le_refl _) _
  have K := of_s (w := W1) (Ad := some ⟨w1.heap.size, 0, none⟩) (c := 4) [[53], [49], [57], [55]] (by decide) (by decide) (by rw [hW1]; exact lies_new w1 _ 9)
  rw [show (([[53], [49], [57], [55]] : List (List UInt8)).mergeSort leS).getD ((([[53], [49], [57], [55]] : List (List UInt8)).length - 1) / 2) [] = [53] from mid_exs] at K
  have HK := Lib.hid K
  have HB2 := Lib.hid (bel_trans HB1.out hbW1)
  clear K hbW1 HB1
  go_wp2_with fail
  rw [← hW1]
  have HW := Lib.hid hW1
  clear hW1
  refine HK.out.mono ?_
  rintro e w2 ⟨rfl, hb2⟩
  have HB3 := Lib.hid (bel_trans HB2.out hb2)
  clear hb2 HK
  go_wp2
  go_ret
  exact ⟨rfl, HB3.out⟩
end Go.Proofs.YtjjcoblbiagflaaGreat
