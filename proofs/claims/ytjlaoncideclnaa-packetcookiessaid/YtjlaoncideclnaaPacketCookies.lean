/- For all two cookies the statement PacketCookies returns true: two queries differ just if their cookies do, and in the last eight bytes alone. No condition. -/
import Derived.Test.YtjlaoncideclnaaRows
import Derived.Test.YtjlaoncideclnaaBack
import Derived.Test.YtjlaoncideclnaaOpen
import Derived.WalkKit
import Derived.ProofKit
import Derived.OpenShut
import Derived.ShutString
import Derived.ChangeOld
import Derived.Below
import Derived.Lib.QuietBelow
import Derived.Deep.DrawnRows
namespace Go.Proofs.Ytjlaoncideclnaa.packetCookies
open Go.Sort Go.ChangeShapes Go.WideShapes Go.ChangeAt Go.RowKit
set_option linter.unusedVariables false

theorem own : ownKnob Try.prog.godebug = none := by kernel_rfl
theorem laidOut : laidOutB Try.prog = true := by kernel_rfl

theorem has_take {w : World} {g o : Nat} {zs : List Int} (n : Nat) (h : Has w g o zs) : Has w g o (zs.take n) := by
  intro t ht
  have h1 : t < n ∧ t < zs.length := by simp at ht; omega
  rw [h t h1.2]
  simp [List.getD, h1.1]
theorem head40 (x : Int) {w : World} {g c : Nat} (h : Has w g 0 (query x).bytes) : (convert 27 9 (.slice (some ⟨g, 0, none⟩) 40 c)).run Try.prog w = .ok (.string (strOfNums ((query 0).bytes.take 40))) w := by
  have e : (query x).bytes.take 40 = (query 0).bytes.take 40 := rfl
  rw [← e]
  exact run_string 40 (by rw [List.length_take, Pk.bytes_length]; rfl) (has_take 40 h)
theorem tail8 (x : Int) {w : World} {g c : Nat} (h : Has w g 0 (query x).bytes) : (convert 27 9 (.slice (some ⟨g, 40, none⟩) 8 c)).run Try.prog w = .ok (.string (strOfNums (be 8 x))) w := by
  have e : seg (query x).bytes 40 8 = be 8 x := rfl
  have h2 := seg_has 40 8 (by rw [Pk.bytes_length]; omega) h
  rw [e, Nat.zero_add] at h2
  exact run_string 8 (be_length _ _) h2
theorem heads (a b : Int) : ∃ s : ByteArray, Hid (∀ (w : World) (g c : Nat), Has w g 0 (query a).bytes → (convert 27 9 (.slice (some ⟨g, 0, none⟩) 40 c)).run Try.prog w = .ok (.string s) w) ∧ Hid (∀ (w : World) (g c : Nat), Has w g 0 (query b).bytes → (convert 27 9 (.slice (some ⟨g, 0, none⟩) 40 c)).run Try.prog w = .ok (.string s) w) :=
  ⟨strOfNums ((query 0).bytes.take 40), Lib.hid (fun _ _ _ h => head40 a h), Lib.hid (fun _ _ _ h => head40 b h)⟩
theorem str_inj {xs ys : List Int} (hx : AllBytes xs) (hy : AllBytes ys) (h : (strOfNums xs).toList = (strOfNums ys).toList) : xs = ys := by
  have e : ∀ zs : List Int, (strOfNums zs).toList = zs.map fun n => UInt8.ofNat n.toNat := fun zs => by rw [← strOfNums_data]; exact ByteArray.toList_eq _
  rw [e, e] at h
  clear e
  induction xs generalizing ys with
  | nil => cases ys with
    | nil => rfl
    | cons y ys => simp at h
  | cons x xs ih => cases ys with
    | nil => simp at h
    | cons y ys =>
      simp only [List.map_cons, List.cons.injEq] at h
      have h1 := hx x (List.mem_cons_self ..)
      have h2 := hy y (List.mem_cons_self ..)
      unfold IsByte at h1 h2
      have h3 := congrArg UInt8.toNat h.1
      simp only [UInt8.toNat_ofNat'] at h3
      rw [ih (fun z hz => hx z (List.mem_cons_of_mem _ hz)) (fun z hz => hy z (List.mem_cons_of_mem _ hz)) h.2, show x = y by omega]
theorem tails (a b : Int) (a0 : 0 ≤ a) (a1 : a ≤ 18446744073709551615) (b0 : 0 ≤ b) (b1 : b ≤ 18446744073709551615) : ∃ s t : ByteArray, Hid (∀ (w : World) (g c : Nat), Has w g 0 (query a).bytes → (convert 27 9 (.slice (some ⟨g, 40, none⟩) 8 c)).run Try.prog w = .ok (.string s) w) ∧ Hid (∀ (w : World) (g c : Nat), Has w g 0 (query b).bytes → (convert 27 9 (.slice (some ⟨g, 40, none⟩) 8 c)).run Try.prog w = .ok (.string t) w) ∧ (s.toList == t.toList) = (a == b) := by
  refine ⟨strOfNums (be 8 a), strOfNums (be 8 b), Lib.hid (fun _ _ _ h => tail8 a h), Lib.hid (fun _ _ _ h => tail8 b h), ?_⟩
  by_cases h : a = b
  · subst h; simp
  · have : ¬ (strOfNums (be 8 a)).toList = (strOfNums (be 8 b)).toList := fun hh => by
      have e8 : (256 : Int) ^ 8 = 18446744073709551616 := by decide
      have := congrArg num (str_inj (be_bytes _ _) (be_bytes _ _) hh)
      rw [num_be 8 a a0 (by rw [e8]; omega), num_be 8 b b0 (by rw [e8]; omega)] at this
      exact h this
    rw [beq_eq_false_iff_ne.2 this, beq_eq_false_iff_ne.2 h]
set_option maxHeartbeats 1000000 in
theorem walk (a0 : Int) (a1 : Int) (w : World) (w0 : (Lit.int .u64 a0).wf = true) (w1 : (Lit.int .u64 a1).wf = true) :
    Calls Try.prog 8 #[.int .u64 a0, .int .u64 a1] w fun e w' => e = .returned (.bool true) ∧ Below w.heap.size w w' := by
  obtain ⟨b0l, b0u⟩ := bounds_u64 w0
  obtain ⟨b1l, b1u⟩ := bounds_u64 w1
  clear w0
  clear w1
  have KA := Lib.hid alive_any
  have KQ := Lib.hid (fun w => query_any a0 w b0l b0u)
  obtain ⟨s, S1, S2⟩ := heads a0 a1
  obtain ⟨sa, sb, S3, S4, heq⟩ := tails a0 a1 b0l b0u b1l b1u
  have KR := Lib.hid (fun w => query_any a1 w b1l b1u)
  clear b0l b0u b1l b1u
  go_enter Try.func8, Try.ntmps8
  go_wp2_with fail
  refine (KQ.out _).mono ?_
  rintro e w1 ⟨g, c, rfl, hg1, hg2, hc1, hc2, hh, hb1⟩
  have H1 := Lib.hid hh
  clear hh KQ
  go_wp2_with fail
  refine (KR.out _).mono ?_
  rintro e w2 ⟨g', c', rfl, hg3, hg4, hc3, hc4, hh, hb2⟩
  have H2 := Lib.hid (has_below H1.out hg2 hb2)
  have H3 := Lib.hid hh
  have hg5 : g < w2.heap.size := Nat.lt_of_lt_of_le hg2 hb2.size
  clear hh KR
  unfold maxLen at hc2 hc4
  have cA : ∀ d os, Calls Try.prog 12 #[] (grow (redrawn w2 d) os) fun e w'' => e = .returned (.bool true) ∧ ∃ p : Regrown, w'' = grow (redrawn w2 p.d) p.os := fun d os => Calls.regrown_of (KA.out _)
  have cv1 : ∀ d os, (convert 27 9 (.slice (some ⟨g, 0, none⟩) 40 c)).run Try.prog (grow (redrawn w2 d) os) = .ok (.string s) (grow (redrawn w2 d) os) := fun d os => S1.out _ g c (has_below H2.out hg5 (below_regrown w2 d os))
  have cv2 : ∀ d os, (convert 27 9 (.slice (some ⟨g', 0, none⟩) 40 c')).run Try.prog (grow (redrawn w2 d) os) = .ok (.string s) (grow (redrawn w2 d) os) := fun d os => S2.out _ g' c' (has_below H3.out hg4 (below_regrown w2 d os))
  have cv3 : ∀ d os, (convert 27 9 (.slice (some ⟨g, 40, none⟩) 8 (c - 40))).run Try.prog (grow (redrawn w2 d) os) = .ok (.string sa) (grow (redrawn w2 d) os) := fun d os => S3.out _ g (c - 40) (has_below H2.out hg5 (below_regrown w2 d os))
  have cv4 : ∀ d os, (convert 27 9 (.slice (some ⟨g', 40, none⟩) 8 (c' - 40))).run Try.prog (grow (redrawn w2 d) os) = .ok (.string sb) (grow (redrawn w2 d) os) := fun d os => S4.out _ g' (c' - 40) (has_below H3.out hg4 (below_regrown w2 d os))
  have n1 : ¬ c = 40 := by omega
  have n2 : ¬ c' = 40 := by omega
  have q1 : (40 : Int) ≤ (c : Int) := by omega
  have q2 : (40 : Int) ≤ (c' : Int) := by omega
  have q3 : (48 : Int) ≤ (c : Int) := by omega
  have q4 : (48 : Int) ≤ (c' : Int) := by omega
  go_wp2_with fail
  refine wp_region_quiet_below (by kernel_rfl) (by kernel_rfl) ?_
  repeat (quiet_step (exact cA _ _))
  refine wpQuiet_nil ?_
  intro _ hw'
  obtain ⟨⟨dq, osq⟩, hw''⟩ := hw'
  subst hw''
  go_wp2
  go_ret
  exact ⟨rfl, hb1.trans ((hb2.trans ((below_regrown w2 dq osq).mono hb2.size)).mono hb1.size)⟩

set_option maxRecDepth 100000 in
theorem lifted (os : Os) (started : os.Started) (H : Type) (enc : TypeId × Value → H) :
    ReturnsInHanded {} Try.checked os 8 .any (Rows.packetCookiesSpec.pre6 enc Try.prog Try.f8 Rows.packetCookiesRow.domain false) (Rows.packetCookiesSpec.post enc Try.prog Try.f8 false true false false) := by
  refine returnsInHanded_of_change (C := Try.checked) own started (by kernel_rfl) Try.func8
    (ChangeSpec.witness6 (enc := enc) (C := Try.checked) false ⟨#[], #[.int .u64 0, .int .u64 0], []⟩ 8 (by kernel_rfl) (by kernel_rfl) (by kernel_rfl) (by kernel_rfl)) ?_
  intro W base args ds gs before hval0 hW hcnd _
  have hval : ∀ (j : Nat) t v, Try.f8.params[j]? = some t → args[j]? = some v → Value.okWide Try.prog W .any base t v := hval0
  have hW' := hW
  obtain ⟨p, q, hA0, hV, rfl, hfz, hnd⟩ := hW
  have hA : DataW.TrodAll enc Try.prog W 0 (fun _ => true) true Try.f8.params.toList args.toList ds p := hA0
  rw [Try.params8] at hA hval
  obtain ⟨v0, vs0, d0, ds0, p0, q0, hargs, rfl, rfl, h0, r0⟩ := trodAll_cons hA
  obtain ⟨v1, vs1, d1, ds1, p1, q1, rfl, rfl, rfl, h1, r1⟩ := trodAll_cons r0
  obtain ⟨rfl, rfl, rfl⟩ := trodAll_nil r1
  obtain rfl : args = #[v0, v1] := by cases args; simp_all
  obtain ⟨rfl, rfl⟩ := trodVars_none hV
  obtain ⟨a0, rfl, rfl, rfl, w0⟩ := open_int Try.underlying24 (hval 0 24 v0 rfl rfl) h0
  obtain ⟨a1, rfl, rfl, rfl, w1⟩ := open_int Try.underlying24 (hval 1 24 v1 rfl rfl) h1
  clear hA0 hval0
  refine (walk a0 a1 W w0 w1).mono fun e W' ⟨he, bel⟩ => ?_
  subst he
  exact ⟨_, rfl, _, _, _, [], _, [], hW', trodAll_mk1 (shut_bool Try.underlying4 _), (trodAll_cons_mk (shut_int Try.underlying24 w0) (trodAll_cons_mk (shut_int Try.underlying24 w1) trodAll_mk0)), rfl, bel.frame _, fun h => by cases h⟩

theorem over : Rows.packetCookiesRow.holds Try.pinned (OpenSpec.ofChange Rows.packetCookiesSpec) :=
  OpenClaim.holds_of_wide 8 Try.f8 rfl rfl rfl rfl rfl rfl rfl ⟨rfl, rfl, rfl, rfl, rfl⟩ rfl rfl rfl rfl rfl (by kernel_rfl) Try.func8 (by kernel_rfl)
    (of_decide_eq_true (by kernel_rfl)) (by unfold Func.isWrapper; first | (rw [if_pos (by decide +kernel)]; kernel_rfl) | (rw [if_neg (by decide +kernel)]; exact ⟨rfl, rfl⟩))
    (fun os started H enc _ => lifted os started H enc)

theorem proved : Rows.PacketCookiesSaid :=
  over
#print axioms proved
end Go.Proofs.Ytjlaoncideclnaa.packetCookies
