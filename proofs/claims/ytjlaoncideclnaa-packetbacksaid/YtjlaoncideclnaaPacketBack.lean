/- For every packet and all bytes the statement PacketBack returns true: a packet is got of its bytes, whatever stands behind; what is got of any bytes has just the first 48. No condition. -/
import Derived.Test.YtjlaoncideclnaaRows
import Derived.Test.YtjlaoncideclnaaBackFitsShort
import Derived.Test.YtjlaoncideclnaaBackFitsLong
import Derived.Test.YtjlaoncideclnaaBackBadShort
import Derived.Test.YtjlaoncideclnaaBackBadLong
import Derived.Test.YtjlaoncideclnaaOpen
import Derived.WalkKit
import Derived.ProofKit
import Derived.OpenShut
import Derived.ShutString
import Derived.ChangeOld
import Derived.Below
namespace Go.Proofs.Ytjlaoncideclnaa.packetBack
open Go.ChangeShapes Go.WideShapes Go.ChangeAt Go.RowKit
set_option linter.unusedVariables false

theorem own : ownKnob Try.prog.godebug = none := by kernel_rfl
theorem laidOut : laidOutB Try.prog = true := by kernel_rfl

theorem long_any (p0 : Pk) (A1 : Option Addr) (len1 cap1 : Nat) (A2 : Option Addr) (len2 cap2 : Nat) (w : World) (h : 2000 < len1 ∨ (len1 ≤ 2000 ∧ 2000 < len2)) :
    Calls Try.prog 6 #[.agg #[.int .u8 p0.l, .int .u8 p0.v, .int .u8 p0.m, .int .u8 p0.s, .int .i8 p0.po, .int .i8 p0.pr, .int .u32 p0.de, .int .u32 p0.di, .int .u32 p0.rs, .int .u64 p0.rf, .int .u64 p0.og, .int .u64 p0.rc, .int .u64 p0.xm], .slice A1 len1 cap1, .slice A2 len2 cap2] w fun e w' => e = .returned (.bool true) ∧ Below w.heap.size w w' := by
  have KA := Lib.hid alive_any
  rcases h with h | ⟨h, k⟩
  all_goals
    go_enter Try.func6, Try.ntmps6
    go_wp2_with fail
    refine (KA.out _).mono ?_
    rintro e w1 ⟨rfl, hb1⟩
    go_wp2
    go_ret
    exact ⟨rfl, below_box (below_succ hb1)⟩
set_option maxHeartbeats 1000000 in
theorem walk (p0 : Pk) (A1 : Option Addr) (len1 cap1 : Nat) (z1 : List Int) (A2 : Option Addr) (len2 cap2 : Nat) (z2 : List Int) (w : World) (hp0 : p0.In) (hz1 : Bytes w A1 len1 cap1 z1) (hz2 : Bytes w A2 len2 cap2 z2) :
    Calls Try.prog 6 #[.agg #[.int .u8 p0.l, .int .u8 p0.v, .int .u8 p0.m, .int .u8 p0.s, .int .i8 p0.po, .int .i8 p0.pr, .int .u32 p0.de, .int .u32 p0.di, .int .u32 p0.rs, .int .u64 p0.rf, .int .u64 p0.og, .int .u64 p0.rc, .int .u64 p0.xm], .slice A1 len1 cap1, .slice A2 len2 cap2] w fun e w' => e = .returned (.bool true) ∧ Below w.heap.size w w' := by
  by_cases h1 : len1 ≤ 2000
  · by_cases h2 : len2 ≤ 2000
    · by_cases hf : p0.Fits
      · by_cases h48 : len1 < 48
        · exact back_FitsShort p0 A1 len1 cap1 z1 A2 len2 cap2 z2 w hp0 hz1 hz2 h1 h2 hf h48
        · exact back_FitsLong p0 A1 len1 cap1 z1 A2 len2 cap2 z2 w hp0 hz1 hz2 h1 h2 hf (by omega)
      · by_cases h48 : len1 < 48
        · exact back_BadShort p0 A1 len1 cap1 z1 A2 len2 cap2 z2 w hp0 hz1 hz2 h1 h2 hf h48
        · exact back_BadLong p0 A1 len1 cap1 z1 A2 len2 cap2 z2 w hp0 hz1 hz2 h1 h2 hf (by omega)
    · exact long_any p0 A1 len1 cap1 A2 len2 cap2 w (.inr ⟨h1, by omega⟩)
  · exact long_any p0 A1 len1 cap1 A2 len2 cap2 w (.inl (by omega))

set_option maxRecDepth 100000 in
theorem lifted (os : Os) (started : os.Started) (H : Type) (enc : TypeId × Value → H) :
    ReturnsInHanded {} Try.checked os 6 .any (Rows.packetBackSpec.pre6 enc Try.prog Try.f6 Rows.packetBackRow.domain false) (Rows.packetBackSpec.post enc Try.prog Try.f6 false true false false) := by
  refine returnsInHanded_of_change (C := Try.checked) own started (by kernel_rfl) Try.func6
    (ChangeSpec.witness6 (enc := enc) (C := Try.checked) false ⟨#[], #[.agg #[.int .u8 0, .int .u8 0, .int .u8 0, .int .u8 0, .int .i8 0, .int .i8 0, .int .u32 0, .int .u32 0, .int .u32 0, .int .u64 0, .int .u64 0, .int .u64 0, .int .u64 0], .slice none 0 0, .slice none 0 0], []⟩ 8 (by kernel_rfl) (by kernel_rfl) (by kernel_rfl) (by kernel_rfl)) ?_
  intro W base args ds gs before hval0 hW hcnd _
  have hval : ∀ (j : Nat) t v, Try.f6.params[j]? = some t → args[j]? = some v → Value.okWide Try.prog W .any base t v := hval0
  have hW' := hW
  obtain ⟨p, q, hA0, hV, rfl, hfz, hnd⟩ := hW
  have hA : DataW.TrodAll enc Try.prog W 0 (fun _ => true) true Try.f6.params.toList args.toList ds p := hA0
  rw [Try.params6] at hA hval
  obtain ⟨v0, vs0, d0, ds0, p0, q0, hargs, rfl, rfl, h0, r0⟩ := trodAll_cons hA
  obtain ⟨v1, vs1, d1, ds1, p1, q1, rfl, rfl, rfl, h1, r1⟩ := trodAll_cons r0
  obtain ⟨v2, vs2, d2, ds2, p2, q2, rfl, rfl, rfl, h2, r2⟩ := trodAll_cons r1
  obtain ⟨rfl, rfl, rfl⟩ := trodAll_nil r2
  obtain rfl : args = #[v0, v1, v2] := by cases args; simp_all
  obtain ⟨rfl, rfl⟩ := trodVars_none hV
  have k0 := h0
  have lt0 : ∀ x ∈ p0, x.block < W.heap.size := by obtain ⟨m, hm⟩ := k0; exact DataW.trod_lt m _ _ _ hm
  obtain ⟨x0_0, x0_1, x0_2, x0_3, x0_4, x0_5, x0_6, x0_7, x0_8, x0_9, x0_10, x0_11, x0_12, rfl, w0_0, w0_1, w0_2, w0_3, w0_4, w0_5, w0_6, w0_7, w0_8, w0_9, w0_10, w0_11, w0_12⟩ := open_pk (hval 0 26 v0 rfl rfl) h0
  have hp0 : (Pk.mk x0_0 x0_1 x0_2 x0_3 x0_4 x0_5 x0_6 x0_7 x0_8 x0_9 x0_10 x0_11 x0_12).In := ⟨(bounds_u8 w0_0).1, (bounds_u8 w0_0).2, (bounds_u8 w0_1).1, (bounds_u8 w0_1).2, (bounds_u8 w0_2).1, (bounds_u8 w0_2).2, (bounds_u8 w0_3).1, (bounds_u8 w0_3).2, (bounds_i8 w0_4).1, (bounds_i8 w0_4).2, (bounds_i8 w0_5).1, (bounds_i8 w0_5).2, (bounds_u32 w0_6).1, (bounds_u32 w0_6).2, (bounds_u32 w0_7).1, (bounds_u32 w0_7).2, (bounds_u32 w0_8).1, (bounds_u32 w0_8).2, (bounds_u64 w0_9).1, (bounds_u64 w0_9).2, (bounds_u64 w0_10).1, (bounds_u64 w0_10).2, (bounds_u64 w0_11).1, (bounds_u64 w0_11).2, (bounds_u64 w0_12).1, (bounds_u64 w0_12).2⟩
  have k1 := h1
  have lt1 : ∀ x ∈ p1, x.block < W.heap.size := by obtain ⟨m, hm⟩ := k1; exact DataW.trod_lt m _ _ _ hm
  obtain ⟨A1, len1, cap1, rfl⟩ := okWide_slice Try.underlying27 (hval 1 27 v1 rfl rfl)
  obtain ⟨z1, hz1⟩ := open_bytes h1
  have k2 := h2
  have lt2 : ∀ x ∈ p2, x.block < W.heap.size := by obtain ⟨m, hm⟩ := k2; exact DataW.trod_lt m _ _ _ hm
  obtain ⟨A2, len2, cap2, rfl⟩ := okWide_slice Try.underlying27 (hval 2 27 v2 rfl rfl)
  obtain ⟨z2, hz2⟩ := open_bytes h2
  clear hA0 hval0
  refine (walk ⟨x0_0, x0_1, x0_2, x0_3, x0_4, x0_5, x0_6, x0_7, x0_8, x0_9, x0_10, x0_11, x0_12⟩ A1 len1 cap1 z1 A2 len2 cap2 z2 W hp0 hz1 hz2).mono fun e W' ⟨he, bel⟩ => ?_
  subst he
  exact ⟨_, rfl, _, _, _, [], _, [], hW', trodAll_mk1 (shut_bool Try.underlying4 _), (trodAll_cons_mk (Below.trod laidOut (by kernel_rfl) (of_decide_eq_true (by kernel_rfl)) k0 bel lt0) (trodAll_cons_mk (Below.trod laidOut (by kernel_rfl) (of_decide_eq_true (by kernel_rfl)) k1 bel lt1) (trodAll_cons_mk (Below.trod laidOut (by kernel_rfl) (of_decide_eq_true (by kernel_rfl)) k2 bel lt2) trodAll_mk0))), rfl, bel.frame _, fun h => by cases h⟩

theorem over : Rows.packetBackRow.holds Try.pinned (OpenSpec.ofChange Rows.packetBackSpec) :=
  OpenClaim.holds_of_wide 6 Try.f6 rfl rfl rfl rfl rfl rfl rfl ⟨rfl, rfl, rfl, rfl, rfl⟩ rfl rfl rfl rfl rfl (by kernel_rfl) Try.func6 (by kernel_rfl)
    (of_decide_eq_true (by kernel_rfl)) (by unfold Func.isWrapper; first | (rw [if_pos (by decide +kernel)]; kernel_rfl) | (rw [if_neg (by decide +kernel)]; exact ⟨rfl, rfl⟩))
    (fun os started H enc _ => lifted os started H enc)

theorem proved : Rows.PacketBackSaid :=
  over
#print axioms proved
end Go.Proofs.Ytjlaoncideclnaa.packetBack
