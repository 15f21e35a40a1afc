/- As much as is corrected on a way. -/
import Derived.Test.YtnooneejidpdaaaCk
import Derived.Test.YtnooneejidpdaaaMul
namespace Go.Proofs.Ytnooneejidpdaaa
open Go.RowKit

theorem stp_fl {d r : Int} (hd : 0 ≤ d) (hd2 : d ≤ 4611686018427387903) (hr : 0 ≤ r) (hr2 : r ≤ 500) : stp (d * r / 1000000) = fl d r := by
  have h1 := fl_nn hd hr
  have h2 := fl_le hd hr2
  exact stp_in (by unfold fl at *; omega) (by unfold fl at *; omega)
theorem part_any (d r : Int) (w : World) (hd : 0 ≤ d) (hd2 : d ≤ 4611686018427387903) (hr : 0 ≤ r) (hr2 : r ≤ 500) :
    Calls Try.prog 21 #[.int .i64 d, .int .i64 r, .int .i64 1000000] w fun e w' => e = .returned (.tuple #[.int .i64 (fl d r), .int .i64 0]) ∧ Below w.heap.size w w' := by
  rw [← stp_fl hd hd2 hr hr2]
  exact muldiv_any d r 1000000 w (by omega) (by omega) hr (by omega) (by omega) (by omega)
theorem cor_any (l d r : Int) (w : World) (hd : 0 ≤ d) (hd2 : d ≤ 4611686018427387903) (hr : 0 ≤ r) (hr2 : r ≤ 500) :
    Calls Try.prog 42 #[.int .i64 l, .int .i64 d, .int .i64 r] w fun e w' => e = .returned (.int .i64 (cor l d r)) ∧ Below w.heap.size w w' := by
  have K := Lib.hid (fun w => part_any d r w hd hd2 hr hr2)
  have L := Lib.hid (fun w => clamp_any l (-(fl d r)) (fl d r) w)
  have f1 := fl_nn hd hr
  have f2 := fl_le hd hr2
  unfold cor
  generalize fl d r = f at *
  go_enter Try.func42, Try.ntmps42
  go_wp2_with fail
  refine (K.out _).mono ?_
  rintro e w1 ⟨rfl, hb1⟩
  go_wp2_with fail
  refine (L.out _).mono ?_
  rintro e w2 ⟨rfl, rfl⟩
  go_wp2
  go_ret
  exact ⟨rfl, hb1⟩
end Go.Proofs.Ytnooneejidpdaaa
