/- uint8: how a number lies in a cell, and which is less. -/
import Derived.Test.YtjjcoblbiagflaaGreatSw
import Derived.BigQuiet
import Derived.Lib.QuietBelow
namespace Go.Proofs.YtjjcoblbiagflaaGreat.ku
open Go.RowKit

abbrev A := UInt8
def enc (x : A) : Value := .int .u8 x.toNat
def lt (x y : A) : Bool := decide (x.toNat < y.toNat)
abbrev T : TypeId := 5
theorem enc_one (x : A) : (enc x).oneCell' = true := by simp [enc, Value.oneCell']
theorem enc_ex (x : A) : ∃ y, enc x = (.int .u8 y) := ⟨_, rfl⟩
theorem isnan_any (x : A) (w : World) : Calls Tryz.prog 94 #[enc x] w fun e w' => e = .returned (.bool false) ∧ w = w' := by
  unfold enc
  go_enter Tryz.func94, Tryz.ntmps94
  go_wp2
  go_ret
  simp
theorem less_any (x y : A) (w : World) : Calls Tryz.prog 60 #[enc x, enc y] w fun e w' => e = .returned (.bool (lt x y)) ∧ w = w' := by
  have K := Lib.hid (fun w => isnan_any x w)
  unfold enc lt at *
  go_enter Tryz.func60, Tryz.ntmps60
  go_wp2_with fail
  refine (K.out _).mono ?_
  rintro e w1 ⟨rfl, rfl⟩
  go_wp2
  go_ret
  simp
end Go.Proofs.YtjjcoblbiagflaaGreat.ku
