/- WakeNone's walk. -/
import Derived.Test.YtebdhleggbccdaaQuI
import Derived.Test.YtebdhleggbccdaaAlive
namespace Go.Proofs.Ytebdhleggbccdaa
open Go.RowKit Go.Maps

theorem i64_wf_ {c : Int} (h1 : -9223372036854775808 ≤ c) (h2 : c ≤ 9223372036854775807) : (Lit.int .i64 c).wf = true := by
  simp [Lit.wf, IntKind.min, IntKind.max, IntKind.signed, IntKind.bits]; omega
set_option maxRecDepth 100000 in
set_option maxHeartbeats 4000000 in
theorem walk_none (k a : Int) (w : World) (hk : (Lit.int .i64 k).wf = true) : Calls Try.prog 4 #[.int .i64 k, .int .i64 a] w fun e w' => e = .returned (.bool true) ∧ Below w.heap.size w w' := by
  have HK : Hid (ki.KOk k) := Lib.hid hk
  clear hk
  go_enter Try.func4, Try.ntmps4
  go_wp2_with fail
  refine (ki.set_nil k a _).mono ?_
  rintro e w1 ⟨rfl, hb1⟩
  have B1 := Lib.hid hb1
  clear hb1
  go_wp2_with fail
  refine (ki.drop_nil k _).mono ?_
  rintro e w2 ⟨rfl, hb2⟩
  have B2 := Lib.hid (bel_trans B1.out hb2)
  clear hb2 B1
  go_wp2_with fail
  refine (ki.next_nil _).mono ?_
  rintro e w3 ⟨rfl, rfl⟩
  go_wp2_with fail
  refine (ki.at_nil k _).mono ?_
  rintro e w4 ⟨rfl, hb4⟩
  have B4 := Lib.hid (bel_trans B2.out hb4)
  clear hb4 B2
  go_wp2_with fail
  refine (ki.new_any _).mono ?_
  rintro e w5 ⟨rfl, hq5, hb5⟩
  obtain ⟨b, hb⟩ : ∃ b, b = w4.heap.size + 1 := ⟨_, rfl⟩
  obtain ⟨m, hm⟩ : ∃ m, m = w4.heap.size := ⟨_, rfl⟩
  obtain ⟨s, hs⟩ : ∃ s, s = w4.heap.size := ⟨_, rfl⟩
  have R5 := Lib.hid (show ki.Q w5 s b m 0 [] by rw [hb, hm, hs]; exact hq5)
  have B5 := Lib.hid (bel_trans B4.out hb5)
  rw [← hb]
  have HS := Lib.hid (show w.heap.size ≤ s by rw [hs]; exact B4.out.size)
  clear hq5 hb5 hb hm hs B4
  go_wp2_with fail
  refine (ki.len_nil _).mono ?_
  rintro e w6 ⟨rfl, rfl⟩
  go_wp2_with fail
  refine (ki.due_nil a _).mono ?_
  rintro e w7 ⟨H, rfl, hH, hl7, hb7⟩
  have R7 := Lib.hid (R5.out.below hb7 (Nat.le_refl _))
  have B7 := Lib.hid (bel_trans B5.out hb7)
  clear hl7 hb7 R5 B5 hH
  simp only [List.length_nil]
  go_wp2_with fail
  refine (ki.next_none R7.out).mono ?_
  rintro e w8 ⟨rfl, rfl⟩
  go_wp2_with fail
  refine (ki.drop_any R7.out HK.out).mono ?_
  rintro e w9 ⟨rfl, hq9, t9⟩
  have R9 := Lib.hid hq9
  have B9 := Lib.hid (B7.out.trans (t9.below B7.out.size (by have := R7.out.own; have := HS.out; omega) (fun j hj => by injection hj with hj; have := R7.out.own'; have := HS.out; omega)))
  clear hq9 t9 R7 B7
  go_wp2_with fail
  refine (alive_any _).mono ?_
  rintro e w10 ⟨rfl, hb10⟩
  have R10 := Lib.hid (show ki.Q w10 s b m 0 [] from R9.out.below hb10 (Nat.le_refl _))
  have B10 := Lib.hid (bel_trans B9.out hb10)
  clear hb10 R9 B9
  go_wp2_with fail
  refine (ki.len_any R10.out).mono ?_
  rintro e w11 ⟨rfl, rfl⟩
  simp only [List.length_nil]
  go_wp2_with fail
  refine (ki.due_any R10.out (by simp) a).mono ?_
  rintro e w12 ⟨H2, rfl, hH2, hl12, hb12⟩
  have B12 := Lib.hid (bel_trans B10.out hb12)
  have e0 : (dueQ a ([] : List (En Int))).length = 0 := by have := length_dueQ a ([] : List (En Int)); simpa using this
  rw [e0]
  clear hl12 hb12 hH2 e0 B10 R10
  go_wp2
  go_ret
  exact ⟨rfl, B12.out⟩
end Go.Proofs.Ytebdhleggbccdaa
