/- PeerKept: an answer that isn't taken changes nothing, but a kiss to the cookie; who got that is never asked again. No condition. -/
import Derived.Test.YtfknefpfekjnnaaRows
import Derived.Test.YtfknefpfekjnnaaWkept
import Derived.Test.YtfknefpfekjnnaaArgs
import Derived.Test.YtfknefpfekjnnaaArr
import Derived.WalkKit
import Derived.ProofKit
import Derived.OpenShut
import Derived.ShutString
import Derived.ChangeOld
import Derived.Below
namespace Go.Proofs.Ytfknefpfekjnnaa.peerKept
open Go.ChangeShapes Go.WideShapes Go.ChangeAt Go.RowKit
set_option linter.unusedVariables false

theorem own : ownKnob Try.prog.godebug = none := by kernel_rfl
theorem laidOut : laidOutB Try.prog = true := by kernel_rfl
theorem cells2_ : Try.prog.cellsOf 2 = 1 := by kernel_rfl
theorem cells61_ : Try.prog.cellsOf 61 = 3 := by kernel_rfl
theorem list3_ {α : Type} (l : List α) (h : l.length = 3) : ∃ x0 x1 x2, l = [x0, x1, x2] := by
  match l, h with
  | [x0, x1, x2], _ => exact ⟨x0, x1, x2, rfl⟩

set_option maxRecDepth 100000 in
set_option maxHeartbeats 8000000 in
theorem walk (u0 : Value) (c0 : Cfg) (A1 : Option Addr) (len1 cap1 : Nat) (z1 : List Int) (a20 a21 a22 : Int) (w : World) (hc0 : CfIn w u0 c0) (hz1 : Bytes w A1 len1 cap1 z1) (w20 : (Lit.int .i64 a20).wf = true) (w21 : (Lit.int .i64 a21).wf = true) (w22 : (Lit.int .i64 a22).wf = true) :
    Calls Try.prog 6 #[cval u0 c0, .slice A1 len1 cap1, .agg #[.int .i64 a20, .int .i64 a21, .int .i64 a22]] w fun e w' => e = .returned (.bool true) ∧ Below w.heap.size w w' := by
  obtain ⟨b20l, b20u⟩ := bounds_i64 w20
  obtain ⟨b21l, b21u⟩ := bounds_i64 w21
  obtain ⟨b22l, b22u⟩ := bounds_i64 w22
  clear w20
  clear w21
  clear w22
  exact walk_kept u0 c0 A1 len1 cap1 z1 a20 a21 a22 w hc0 hz1 ⟨b20l, b20u⟩ ⟨b21l, b21u⟩

set_option maxRecDepth 100000 in
theorem lifted (os : Os) (started : os.Started) (H : Type) (enc : TypeId × Value → H) :
    ReturnsInHanded {} Try.checked os 6 .any (Rows.peerKeptSpec.pre6 enc Try.prog Try.f6 Rows.peerKeptRow.domain false) (Rows.peerKeptSpec.post enc Try.prog Try.f6 false true false false) := by
  refine returnsInHanded_of_change (C := Try.checked) own started (by kernel_rfl) Try.func6
    (ChangeSpec.witness6 (enc := enc) (C := Try.checked) false ⟨#[], #[.agg #[.slice none 0 0, .int .i64 0, .int .i64 0, .int .i64 0, .int .i64 0, .int .i64 0], .slice none 0 0, .agg #[.int .i64 0, .int .i64 0, .int .i64 0]], []⟩ 8 (by kernel_rfl) (by kernel_rfl) (by kernel_rfl) (by kernel_rfl)) ?_
  intro W base args ds gs before hval0 hW hcnd _
  have hval : ∀ (j : Nat) t v, Try.f6.params[j]? = some t → args[j]? = some v → Value.okWide Try.prog W .any base t v := hval0
  have hW' := hW
  obtain ⟨p, q, hA0, hV, rfl, hfz, hnd⟩ := hW
  have hA : DataW.TrodAll enc Try.prog W 0 (fun _ => true) true Try.f6.params.toList args.toList ds p := hA0
  rw [Try.params6] at hA hval
  obtain ⟨v0, vs0, d0, ds0, p0, q0, hargs, rfl, rfl, h0, r0⟩ := trodAll_cons hA
  obtain ⟨v1, vs1, d1, ds1, p1, q1, rfl, rfl, rfl, h1, r1⟩ := trodAll_cons r0
  obtain ⟨v2, vs2, d2, ds2, p2, q2, rfl, rfl, rfl, h2, r2⟩ := trodAll_cons r1
  obtain ⟨rfl, rfl, rfl⟩ := trodAll_nil r2
  obtain rfl : args = #[v0, v1, v2] := by cases args; simp_all
  obtain ⟨rfl, rfl⟩ := trodVars_none hV
  have k0 := h0
  have lt0 : ∀ x ∈ p0, x.block < W.heap.size := by obtain ⟨m, hm⟩ := k0; exact DataW.trod_lt m _ _ _ hm
  obtain ⟨u0, c0, rfl, hc0⟩ := open_cfg (hval 0 24 v0 rfl rfl) h0
  have k1 := h1
  have lt1 : ∀ x ∈ p1, x.block < W.heap.size := by obtain ⟨m, hm⟩ := k1; exact DataW.trod_lt m _ _ _ hm
  obtain ⟨A1, len1, cap1, rfl⟩ := okWide_slice Try.underlying35 (hval 1 35 v1 rfl rfl)
  obtain ⟨z1, hz1⟩ := open_bytes h1
  obtain ⟨xs2, hl2, rfl, rfl, rfl, hw2⟩ := open_ints_array Try.underlying61 Try.underlying2 cells2_ cells61_ (hval 2 61 v2 rfl rfl) h2
  obtain ⟨a20, a21, a22, rfl⟩ := list3_ xs2 hl2
  have w20 := hw2 a20 (by simp)
  have w21 := hw2 a21 (by simp)
  have w22 := hw2 a22 (by simp)
  clear hA0 hval0
  refine (walk u0 c0 A1 len1 cap1 z1 a20 a21 a22 W hc0 hz1 w20 w21 w22).mono fun e W' ⟨he, bel⟩ => ?_
  subst he
  exact ⟨_, rfl, _, _, _, [], _, [], hW', trodAll_mk1 (shut_bool Try.underlying4 _), (trodAll_cons_mk (Below.trod laidOut (by kernel_rfl) (of_decide_eq_true (by kernel_rfl)) k0 bel lt0) (trodAll_cons_mk (Below.trod laidOut (by kernel_rfl) (of_decide_eq_true (by kernel_rfl)) k1 bel lt1) (trodAll_cons_mk (shut_ints_array [a20, a21, a22] Try.underlying61 Try.underlying2 cells2_ cells61_ rfl hw2) trodAll_mk0))), rfl, bel.frame _, fun h => by cases h⟩

theorem over : Rows.peerKeptRow.holds Try.pinned (OpenSpec.ofChange Rows.peerKeptSpec) :=
  OpenClaim.holds_of_wide 6 Try.f6 rfl rfl rfl rfl rfl rfl rfl ⟨rfl, rfl, rfl, rfl, rfl⟩ rfl rfl rfl rfl rfl (by kernel_rfl) Try.func6 (by kernel_rfl)
    (of_decide_eq_true (by kernel_rfl)) (by unfold Func.isWrapper; first | (rw [if_pos (by decide +kernel)]; kernel_rfl) | (rw [if_neg (by decide +kernel)]; exact ⟨rfl, rfl⟩))
    (fun os started H enc _ => lifted os started H enc)

theorem proved : Rows.PeerKeptSaid :=
  over
#print axioms proved
end Go.Proofs.Ytfknefpfekjnnaa.peerKept
