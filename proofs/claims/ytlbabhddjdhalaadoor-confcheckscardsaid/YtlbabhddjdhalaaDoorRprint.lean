/- The document's own Print. -/
import Derived.Test.YtlbabhddjdhalaaDoorLaws0
import Derived.Lib.QuietBelow
import Derived.BigQuiet
namespace Go.Proofs.YtlbabhddjdhalaaDoor
open Go.RowKit Go.Proofs.Lx

theorem app4 (t s u z : ByteArray) : (t ++ s ++ u ++ z).data.toList = t.data.toList ++ s.data.toList ++ u.data.toList ++ z.data.toList := by simp
theorem line_app (t : Bs) (word : Bs) (n : Int) : t ++ (word ++ [32]) ++ textOf n ++ [10] = t ++ lineOf word [n] := by simp [lineOf, numsT]
theorem line_app2 (t : Bs) (word : Bs) (n m : Int) : t ++ (word ++ [32]) ++ textOf n ++ [32] ++ textOf m ++ [10] = t ++ lineOf word [n, m] := by simp [lineOf, numsT]
set_option maxRecDepth 100000 in
set_option maxHeartbeats 4000000 in
theorem rprint_any (v : Value) (c : Cfg) (w : World) (h : Ints w v c.S) (hl : c.S.length ≤ 16) :
    Calls Tryd.prog 16 #[cval v c] w fun e w' => e = .returned (.string ⟨(printOf c).toArray⟩) ∧ Below w.heap.size w w' := by
  obtain ⟨A, cp, rfl, hc⟩ := h.len
  obtain ⟨W, hW⟩ : ∃ W, W = w.alloc (.cells #[.slice A c.S.length cp, .int .i64 c.q, .int .i64 c.l, .int .i64 c.m, .int .i64 c.d, .int .i64 c.s] 24) := ⟨_, rfl⟩
  have hbW : Below w.heap.size w W := by rw [hW]; exact below_alloc _ _
  have B0 : Box W w.heap.size (.slice A c.S.length cp) c := by rw [hW]; exact Box.new _ _ _
  have HGO : Hid (∀ u, Below W.heap.size W u → Below w.heap.size w u) := fun u hu => hbW.trans (hu.mono hbW.size)
  have HA : Hid (∀ u, Below W.heap.size W u → Box u w.heap.size (.slice A c.S.length cp) c) := fun u hu => B0.below hu B0.lt
  have HI : Hid (∀ u, Below W.heap.size W u → Ints u (.slice A c.S.length cp) c.S) := fun u hu => h.below (HGO.out u hu) (Nat.le_refl _)
  have HWW : Hid (Below W.heap.size W W) := Below.refl _ _
  unfold cval
  obtain ⟨N, hN⟩ : ∃ N, N = c.S.length := ⟨_, rfl⟩
  have HN := Lib.hid hN
  rw [← hN] at HA HI hl hc hW ⊢
  clear h hN hbW B0
  have b32 : (⟨#[32]⟩ : ByteArray).size = 1 := rfl
  have b10 : (⟨#[10]⟩ : ByteArray).size = 1 := rfl
  have bs : (⟨#[115, 101, 114, 118, 101, 114, 32]⟩ : ByteArray).size = 7 := rfl
  have bq : (⟨#[113, 117, 111, 114, 117, 109, 32]⟩ : ByteArray).size = 7 := rfl
  have bp : (⟨#[112, 111, 108, 108, 32]⟩ : ByteArray).size = 5 := rfl
  have bd : (⟨#[100, 101, 108, 97, 121, 32]⟩ : ByteArray).size = 6 := rfl
  have bw : (⟨#[115, 108, 101, 119, 32]⟩ : ByteArray).size = 5 := rfl
  go_enter Tryd.func16, Tryd.ntmps16
  go_wp2
  rw [← hW]
  clear hW
  go_loopw [3, 4] (fun t i wr => ∃ (k : Nat) (s : ByteArray), k ≤ N ∧ i = .int .i64 k ∧ t = .string s ∧ s.size ≤ 100 * k ∧ Hid (s.data.toList = srvT (c.S.take k)) ∧ Hid (Below W.heap.size W wr)) (fun _ i _ => N - (intOf i).toNat)
  case atStart => exact ⟨0, ⟨#[]⟩, Nat.zero_le _, rfl, rfl, by decide, (by simp [srvT] : (⟨#[]⟩ : ByteArray).data.toList = srvT (c.S.take 0)), HWW.out⟩
  case round =>
    obtain ⟨k, s, hk, rfl, rfl, hsz, HX, HB⟩ := hrel
    obtain ⟨r0, r1, r2, r3, r4, r5⟩ := (HA.out wr HB.out).cells
    by_cases hkN : k < N
    · have hkx : k < c.S.length := by have := HN.out; omega
      obtain ⟨g, o, rfl, hg, hcell⟩ := (HI.out wr HB.out).at_ k hkx
      have HS := Lib.hid (take_srvT hkx)
      obtain ⟨x, hxx⟩ : ∃ x, x = c.S[k] := ⟨_, rfl⟩
      rw [← hxx] at hcell HS
      have K := Lib.hid (rtext_any x wr)
      have hts := textS_size x
      have HTX := Lib.hid (textS_list x)
      obtain ⟨tx, htx⟩ : ∃ t, t = textS x := ⟨_, rfl⟩
      rw [← htx] at K hts HTX
      clear hxx hkx htx r1 r2 r3 r4 r5
      go_wp2_with fail
      refine K.out.mono ?_
      rintro e w1 ⟨rfl, hb1⟩
      have HB1 : Hid (Below W.heap.size W w1) := HB.out.trans (hb1.mono HB.out.size)
      clear hb1
      go_wp2
      go_roundw
      case rel =>
        refine ⟨k + 1, _, by omega, by go_num, rfl, ?_, ?_, HB1.out⟩
        · simp only [ByteArray.size_append, bs, b10]; omega
        · show _ = _
          rw [app4, HS.out, HX.out, HTX.out]
          exact line_app _ wServer x
      case measure => simp [intOf]; omega
    · have hx := HX.out
      rw [List.take_of_length_le (by have := HN.out; omega)] at hx
      have HX2 := Lib.hid hx
      clear hx HX
      have K1 := Lib.hid (rtext_any c.q wr)
      have hs1 := textS_size c.q
      have hs2 := textS_size c.l
      have hs3 := textS_size c.m
      have hs4 := textS_size c.d
      have hs5 := textS_size c.s
      have HT1 := Lib.hid (textS_list c.q)
      have HT2 := Lib.hid (textS_list c.l)
      have HT3 := Lib.hid (textS_list c.m)
      have HT4 := Lib.hid (textS_list c.d)
      have HT5 := Lib.hid (textS_list c.s)
      have K2 := Lib.hid (rtext_any c.l)
      have K3 := Lib.hid (rtext_any c.m)
      have K4 := Lib.hid (rtext_any c.d)
      have K5 := Lib.hid (rtext_any c.s)
      obtain ⟨t1, ht1⟩ : ∃ t, t = textS c.q := ⟨_, rfl⟩
      obtain ⟨t2, ht2⟩ : ∃ t, t = textS c.l := ⟨_, rfl⟩
      obtain ⟨t3, ht3⟩ : ∃ t, t = textS c.m := ⟨_, rfl⟩
      obtain ⟨t4, ht4⟩ : ∃ t, t = textS c.d := ⟨_, rfl⟩
      obtain ⟨t5, ht5⟩ : ∃ t, t = textS c.s := ⟨_, rfl⟩
      rw [← ht1] at K1 hs1 HT1
      rw [← ht2] at K2 hs2 HT2
      rw [← ht3] at K3 hs3 HT3
      rw [← ht4] at K4 hs4 HT4
      rw [← ht5] at K5 hs5 HT5
      clear ht1 ht2 ht3 ht4 ht5
      go_wp2_with fail
      refine K1.out.mono ?_
      rintro e w1 ⟨rfl, hb1⟩
      have HB1 : Hid (Below W.heap.size W w1) := HB.out.trans (hb1.mono HB.out.size)
      obtain ⟨_, _, q2, q3, _, _⟩ := (HA.out w1 HB1.out).cells
      have m2 := fun d os => cell_regrown q2 d os
      have m3 := fun d os => cell_regrown q3 d os
      have k2 : ∀ d os, Calls Tryd.prog 31 #[.int .i64 c.l] (Sort.grow (redrawn w1 d) os) fun e w'' => e = .returned (.string t2) ∧ ∃ p : Regrown, w'' = Sort.grow (redrawn w1 p.d) p.os := fun d os => Calls.regrown_of (K2.out _)
      have k3 : ∀ d os, Calls Tryd.prog 31 #[.int .i64 c.m] (Sort.grow (redrawn w1 d) os) fun e w'' => e = .returned (.string t3) ∧ ∃ p : Regrown, w'' = Sort.grow (redrawn w1 p.d) p.os := fun d os => Calls.regrown_of (K3.out _)
      clear hb1 q2 q3
      go_wp2_with fail
      refine wp_region_quiet_below (by kernel_rfl) (by kernel_rfl) ?_
      repeat (go_big_quiet_step (first | with_reducible exact k2 _ _ | with_reducible exact k3 _ _))
      refine wpQuiet_nil ?_
      intro _ hw'
      obtain ⟨⟨dq, osq⟩, hw''⟩ := hw'
      obtain ⟨w2, hw2⟩ : ∃ w2, w2 = Sort.grow (redrawn w1 dq) osq := ⟨_, rfl⟩
      have HB2 : Hid (Below W.heap.size W w2) := by
        show Below _ _ _
        rw [hw2]; exact HB1.out.trans ((below_regrown w1 dq osq).mono HB1.out.size)
      rw [← hw2] at hw''
      subst hw''
      obtain ⟨_, _, _, _, q4, q5⟩ := (HA.out _ HB2.out).cells
      clear hw2 m2 m3 k2 k3
      go_wp2_with fail
      refine (K4.out _).mono ?_
      rintro e w4 ⟨rfl, hb4⟩
      have HB4 : Hid (Below W.heap.size W w4) := HB2.out.trans (hb4.mono HB2.out.size)
      obtain ⟨_, _, _, _, q4, q5⟩ := (HA.out _ HB4.out).cells
      go_wp2_with fail
      refine (K5.out _).mono ?_
      rintro e w5 ⟨rfl, hb5⟩
      have HB5 : Hid (Below W.heap.size W w5) := HB4.out.trans (hb5.mono HB4.out.size)
      go_wp2
      go_ret
      refine ⟨?_, HGO.out _ HB5.out⟩
      congr 1
      refine str_ext ?_
      simp only [str_app, HX2.out, HT1.out, HT2.out, HT3.out, HT4.out, HT5.out]
      unfold printOf
      simp [lineOf, numsT, wQuorum, wPoll, wDelay, wSlew]
end Go.Proofs.YtlbabhddjdhalaaDoor
