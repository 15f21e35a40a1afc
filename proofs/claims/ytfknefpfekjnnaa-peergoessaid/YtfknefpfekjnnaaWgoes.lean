/- A peer that is asked when it is due, and answers in time. -/
import Derived.Test.YtfknefpfekjnnaaWsilent
namespace Go.Proofs.Ytfknefpfekjnnaa
open Go.RowKit

theorem good_got {c r x : Int} (hc : U64 c) (h0 : c ≠ 0) (hr : U64 r) (hr0 : r ≠ 0) (hx : U64 x) (hx0 : x ≠ 0) : lookP c (good c r x).bytes = good c r x := by
  have e := pkOf_bytes (good c r x) [] (good_in c r x hc hr hx) (good_fits c r x)
  rw [List.append_nil] at e
  unfold lookP
  rw [if_neg (by rw [Pk.bytes_length]; decide), e]
  have : whyOf c (good c r x) 0 = 0 := by simp [whyOf, tests, whyL, good, h0, hr0, hx0]
  rw [this]
  rfl
theorem next_wait {k : Pr} (h : k.st = 1) (hl : k.last + 1 ≤ 4611686018427387903) : k.next = k.last + 1 := by
  unfold Pr.next; rw [h, if_neg (by decide), if_pos rfl]; omega
theorem tooks_same (t0 t1 s : Int) (h0 : 0 ≤ t1 - t0) (h1 : t1 - t0 ≤ 9223372036854775807) : tooks t0 t1 s s = t1 - t0 := by
  have e1 : way s s = 0 := by unfold way; omega
  have e2 : took t0 t1 s s = t1 - t0 := by unfold took; rw [e1, stp_in (n := t1 - t0) (by omega) h1]; show stp (t1 - t0 - 0) = _; rw [Int.sub_zero, stp_in (by omega) h1]
  unfold tooks; rw [e2, if_neg (by omega)]
set_option maxRecDepth 100000 in
set_option maxHeartbeats 4000000 in
theorem walk_goes (u : Value) (c : Cfg) (A : Option Addr) (len cap : Nat) (w : World) (hc : CfIn w u c) (hz : IntsIn .u16 w A len cap) :
    Calls Try.prog 7 #[cval u c, .slice A len cap] w fun e w' => e = .returned (.bool true) ∧ Below w.heap.size w w' := by
  have KA := Lib.hid (fun w => alive_any w)
  obtain ⟨hl1, hl2, xs, hxl, hxw, hxc⟩ := hz
  unfold maxLen at hl2
  have HX := Lib.hid hxc
  have HW := Lib.hid hxw
  have HXL := Lib.hid hxl
  clear hxc hxw hxl
  obtain ⟨B, cp, hu, hcp⟩ := hc.S.len
  have KN := Lib.hid (fun W (h : Below w.heap.size w W) (e : pnewE c 0 = 0) => pnew_ok u c W (hc.S.below h (Nat.le_refl _)) 0 e)
  have KB := Lib.hid (fun W (h : Below w.heap.size w W) (e : pnewE c 0 ≠ 0) => pnew_bad u c W (hc.S.below h (Nat.le_refl _)) 0 e)
  have HN : Hid (pnewE c 0 = 0 → (4 ≤ c.l ∧ c.l ≤ 1024) ∧ (c.l ≤ c.m ∧ c.m ≤ 1024) ∧ (1 ≤ c.d ∧ c.d ≤ 1000 * c.l - 2000) ∧ c.S.length ≤ 16) := fun e => nums_of (pnewE_ok e).1
  clear hc
  subst hu
  obtain ⟨S, q, l, m, d, s⟩ := c
  simp only [Pr.new] at *
  generalize pnewE (Cfg.mk S q l m d s) 0 = E at *
  unfold cval at *
  simp only at *
  generalize S.length = N at *
  have hNN : Hid ((w.alloc (.cells #[.slice B N cp, .int .i64 q, .int .i64 l, .int .i64 m, .int .i64 d, .int .i64 s] 24)).heap[w.heap.size]? = some (.cells #[.slice B N cp, .int .i64 q, .int .i64 l, .int .i64 m, .int .i64 d, .int .i64 s] 24 (0, 0))) := heap_alloc_new w _
  have BW := Lib.hid (bel_alloc w (.cells #[.slice B N cp, .int .i64 q, .int .i64 l, .int .i64 m, .int .i64 d, .int .i64 s] 24))
  by_cases he : E = 0
  rotate_left
  · have he2 : (E == 0) = false := by simp [he]
    have KB1 := Lib.hid (KB.out _ BW.out he)
    go_enter Try.func7, Try.ntmps7
    go_wp2_with fail
    refine KB1.out.mono ?_
    rintro e w1 ⟨rfl, hb1⟩
    have HB := Lib.hid (bel_trans BW.out hb1)
    clear hb1 KB KN HN KB1
    go_wp2_with fail
    refine (KA.out _).mono ?_
    rintro e w3 ⟨rfl, hb3⟩
    have HB3 := Lib.hid (bel_trans HB.out hb3)
    clear hb3
    go_wp2_with fail
    refine (KA.out _).mono ?_
    rintro e w4 ⟨rfl, hb4⟩
    have HB4 := Lib.hid (bel_trans HB3.out hb4)
    clear hb4
    go_wp2
    go_ret
    exact ⟨rfl, HB4.out⟩
  have KN1 := Lib.hid (KN.out _ BW.out he)
  obtain ⟨⟨l1, l2⟩, ⟨m1, m2⟩, ⟨d1, d2⟩, n16⟩ := HN.out he
  have hd : decide ((50 : Int) < (N : Int)) = false := decide_eq_false (by omega)
  have R0 := Lib.hid (Rest.new l1 m1 m2 d1 d2)
  clear KN KB HN he n16 hcp
  go_enter Try.func7, Try.ntmps7
  go_wp2_with fail
  refine KN1.out.mono ?_
  rintro e w1 ⟨p, b, rfl, hp, hb, hpe, hb1⟩
  obtain ⟨W0, hW0⟩ : ∃ W0, W0 = w.alloc (.cells #[.slice B N cp, .int .i64 q, .int .i64 l, .int .i64 m, .int .i64 d, .int .i64 s] 24) := ⟨_, rfl⟩
  rw [← hW0] at hp hb hb1 hNN BW
  have S1 := Lib.hid (Sp.start hb1 hp hb hpe)
  clear hp hb hpe hb1 hW0 KN1
  go_wp2_with fail
  refine (KA.out _).mono ?_
  rintro e w2 ⟨rfl, hb2⟩
  have S2 := Lib.hid (S1.out.below hb2)
  have HC2 := Lib.hid ((S2.out.bel.block _ (heap_lt hNN.out)).trans hNN.out)
  obtain ⟨f0, f1, f2, f3, f4, f5⟩ := six_cells HC2.out
  clear hb2 S1 f1 f3 f4 f5 HC2
  clear f0
  by_cases hlen : 50 < len
  · have t1 : decide ((50 : Int) < (len : Int)) = true := decide_eq_true (by omega)
    go_wp2_with fail
    refine (KA.out _).mono ?_
    rintro e w5 ⟨rfl, hb⟩
    have S3 := Lib.hid (S2.out.below hb)
    go_wp2
    go_ret
    exact ⟨rfl, bel_trans BW.out S3.out.bel⟩
  have t1 : decide ((50 : Int) < (len : Int)) = false := decide_eq_false (by omega)
  have HC2 := Lib.hid ((S2.out.bel.block _ (heap_lt hNN.out)).trans hNN.out)
  obtain ⟨f0, f1, f2, f3, f4, f5⟩ := six_cells HC2.out
  clear f1 f3 f4 f5 HC2 KA
  go_wp2_with fail
  clear f0 f2
  go_loopw [45] (fun v45 wi => ∃ (i : Nat) (k : Pr), i ≤ len ∧ v45 = .int .i64 (i : Int) ∧ Hid (Rest l m d i k) ∧ Hid (Sp W0 wi p b k)) (fun s _ => len - (intOf s).toNat)
  case atStart => exact ⟨0, kn l m d, Nat.zero_le _, rfl, R0, S2⟩
  case round =>
    clear S2 R0
    obtain ⟨i, k, hi, rfl, R, S⟩ := hrel
    by_cases hin : i < len
    · obtain ⟨g, o, rfl, hg, hcell⟩ := HX.out (by omega)
      obtain ⟨x, hx⟩ : ∃ x, xs[i]? = some x := ⟨xs[i]'(by have := HXL.out; omega), List.getElem?_eq_getElem _⟩
      have hc0 := hcell i x hx
      have hxb := bounds_u16 (HW.out x (List.mem_of_getElem? hx))
      have hc1 : wr.cell? ⟨g, o + i, none⟩ = some (.int .u16 x) := below_cell (bel_trans BW.out S.out.bel) hc0
      have ok := R.out.ok
      have hst := R.out.st
      have hdl := R.out.d
      have hrl := R.out.l
      have hrm := R.out.m
      have hl1 := ok.l1
      have hlm := ok.lm
      have hm1 := ok.m1
      have KX := Lib.hid (fun W (h : Pe W p b k) => pnext_any p b k W h ok)
      rw [R.out.next (by omega)] at KX
      have hdu := R.out.due
      have hdu0 := ok.u1
      obtain ⟨z, hz⟩ : ∃ z, z = k.due := ⟨_, rfl⟩
      rw [← hz] at KX hdu hdu0
      obtain ⟨h, hh⟩ : ∃ h, z + x = h := ⟨_, rfl⟩
      have KD1 := Lib.hid (fun W (hp : Pe W p b k) => due_any p b k W hp h)
      have KD2 := Lib.hid (fun W (hp : Pe W p b k) => due_any p b k W hp (z - 1))
      rw [show k.isDue h = true from decide_eq_true ⟨hst, by omega⟩] at KD1
      rw [show k.isDue (z - 1) = false from decide_eq_false (by omega)] at KD2
      have hE : k.askE h ((i : Int) + 1) = 0 := askE_due hst (by omega) (by omega) (by omega) (by omega)
      have KQ := Lib.hid (fun W (hp : Pe W p b k) => ask_ok p b k W hp h h ((i : Int) + 1) hE (by omega) (by omega))
      have ok2 := Lib.hid (ok.ask (h := h) (c := h) (x := (i : Int) + 1) (decide_eq_true ⟨by omega, by omega⟩) (by omega) (by omega) (by omega) (by omega))
      have hla : (k.ask h h ((i : Int) + 1)).last = h + d * 1000000 := by unfold Pr.last Pr.ask; simp only; rw [hdl]
      have hil : (k.ask h h ((i : Int) + 1)).isLate (h + d * 1000000) = false := by unfold Pr.isLate; rw [hla]; exact decide_eq_false (by omega)
      have KL1 := Lib.hid (fun W (hp : Pe W p b (k.ask h h ((i : Int) + 1))) => plate_no p b _ W hp ok2.out (h + d * 1000000) hil)
      have KS := Lib.hid (fun W (hp : Pe W p b (k.ask h h ((i : Int) + 1))) => state_any p b _ W hp)
      rw [show (k.ask h h ((i : Int) + 1)).st = 1 from rfl] at KS
      have KX2 := Lib.hid (fun W (hp : Pe W p b (k.ask h h ((i : Int) + 1))) => pnext_any p b _ W hp ok2.out)
      rw [show (k.ask h h ((i : Int) + 1)).next = h + d * 1000000 + 1 by rw [next_wait rfl (by rw [hla]; omega), hla]] at KX2
      have hc64 : U64 ((i : Int) + 1) := ⟨by omega, by omega⟩
      have hc00 : ((i : Int) + 1) ≠ 0 := by omega
      have KG := Lib.hid (fun w => good_bytes (c := (i : Int) + 1) (r := 5) (x := 5) hc64 ⟨by decide, by decide⟩ ⟨by decide, by decide⟩ w)
      have hy0 := good_why hc64 hc00 (r := 5) ⟨by decide, by decide⟩ (by decide) (x := 5) ⟨by decide, by decide⟩ (by decide)
      have hy1 := good_got hc64 hc00 (r := 5) ⟨by decide, by decide⟩ (by decide) (x := 5) ⟨by decide, by decide⟩ (by decide)
      have KW : Hid (∀ W g cp (hp : Pe W p b (k.ask h h ((i : Int) + 1))) (hz : Bytes W (some ⟨g, 0, none⟩) 48 cp (good ((i : Int) + 1) 5 5).bytes), Calls Try.prog 18 #[.pointer (some ⟨p, 0, none⟩), .int .i64 (h + d * 1000000), .int .i64 (h + d * 1000000), .int .i64 i, .slice (some ⟨g, 0, none⟩) 48 cp] W fun e w' => ∃ o1, e = .returned (.tuple #[.agg (smp o1 (d * 1000000) (h + d * 1000000) i), .int .i64 0]) ∧ Pe w' p b (k.ask h h ((i : Int) + 1)).good ∧ Two p b W w') := by
        intro W g cp hp hz
        have := panswer_good p b _ W hp ok2.out (h + d * 1000000) (h + d * 1000000) i (by omega) (by omega) rfl _ 48 cp _ hz (by unfold Pr.why; rw [hil, if_neg (by simp)]; exact hy0)
        unfold Pr.got at this
        rw [hil, if_neg (by simp), show (k.ask h h ((i : Int) + 1)).ck = (i : Int) + 1 from rfl, hy1, show (k.ask h h ((i : Int) + 1)).clk = h from rfl] at this
        rw [show (good ((i : Int) + 1) 5 5).rc = 5 from rfl, show (good ((i : Int) + 1) 5 5).xm = 5 from rfl, tooks_same h (h + d * 1000000) 5 (by omega) (by omega), show h + d * 1000000 - h = d * 1000000 by omega] at this
        exact this.mono fun _ _ h => ⟨_, h⟩
      have R3 : Hid (Rest l m d (i + 1) (k.ask h h ((i : Int) + 1)).good) := ⟨ok2.out.good, rfl, hrl, hrm, hdl, by simp only [Pr.good, Pr.ask]; omega, by simp only [Pr.good, Pr.ask]; omega⟩
      have hgd : (k.ask h h ((i : Int) + 1)).good.due = h + l * 1000000000 := by show h + k.l * 1000000000 = _; rw [hrl]
      have KS3 := Lib.hid (fun W (hp : Pe W p b (k.ask h h ((i : Int) + 1)).good) => state_any p b _ W hp)
      rw [show (k.ask h h ((i : Int) + 1)).good.st = 0 from rfl] at KS3
      have KX3 := Lib.hid (fun W (hp : Pe W p b (k.ask h h ((i : Int) + 1)).good) => pnext_any p b _ W hp ok2.out.good)
      rw [R3.out.next (by omega), hgd] at KX3
      have hw1 : IntKind.i64.wrap x = x := IntWalk.i64_in _ (by omega)
      have hw2 : IntKind.i64.wrap (z + x) = h := by rw [IntWalk.i64_in _ (by omega)]; exact hh
      have hw3 : IntKind.i64.wrap (z - 1) = z - 1 := IntWalk.i64_in _ (by omega)
      have hw4 : IntKind.i64.wrap (d * 1000000) = d * 1000000 := IntWalk.i64_in _ (by omega)
      have hw5 : IntKind.i64.wrap (h + d * 1000000) = h + d * 1000000 := IntWalk.i64_in _ (by omega)
      have hw6 : IntKind.i64.wrap (h + d * 1000000 + 1) = h + d * 1000000 + 1 := IntWalk.i64_in _ (by omega)
      have hw7 : IntKind.i64.wrap (l * 1000000000) = l * 1000000000 := IntWalk.i64_in _ (by omega)
      have hw8 : IntKind.i64.wrap (h + l * 1000000000) = h + l * 1000000000 := IntWalk.i64_in _ (by omega)
      clear hla hil ok2 hy0 hy1 hgd hE
      generalize (k.ask h h ((i : Int) + 1)).good = k3 at *
      generalize k.ask h h ((i : Int) + 1) = k2 at *
      generalize (good ((i : Int) + 1) 5 5).bytes = zs at *
      clear ok hst hdl hrl hrm hl1 hlm hm1 hdu hdu0 hz hcell hx hxb hc0 hh hc64 hc00 R
      have KX1 := Lib.hid (KX.out wr S.out.pe)
      go_wp2_with fail
      refine KX1.out.mono ?_
      rintro e w3 ⟨rfl, hb3⟩
      have S3 := Lib.hid (S.out.below hb3)
      have KDa := Lib.hid (KD1.out w3 S3.out.pe)
      clear hb3 KX1 KD1 S hc1
      go_wp2_with fail
      refine KDa.out.mono ?_
      rintro e w4 ⟨rfl, rfl⟩
      have KXa := Lib.hid (KX.out w3 S3.out.pe)
      clear KX KDa
      go_wp2_with fail
      refine KXa.out.mono ?_
      rintro e w4 ⟨rfl, hb4⟩
      have S4 := Lib.hid (S3.out.below hb4)
      have KDb := Lib.hid (KD2.out w4 S4.out.pe)
      clear hb4 S3 KXa KD2
      go_wp2_with fail
      refine KDb.out.mono ?_
      rintro e w5 ⟨rfl, rfl⟩
      have KQ1 := Lib.hid (KQ.out w4 S4.out.pe)
      clear KDb KQ
      go_wp2_with fail
      refine KQ1.out.mono ?_
      rintro e w5 ⟨g5, cp5, rfl, hg5, hbz, hpe, hb5⟩
      have S5 := Lib.hid (S4.out.two hpe (Two.of_but' hb5))
      have HC5 := Lib.hid ((S5.out.bel.block _ (heap_lt hNN.out)).trans hNN.out)
      obtain ⟨f0, f1, f2, f3, f4, f5⟩ := six_cells HC5.out
      have KS5 := Lib.hid (KS.out w5 S5.out.pe)
      clear hg5 hbz hpe hb5 S4 KQ1 KS f0 f1 f2 f3 f5 HC5
      go_wp2_with fail
      refine KS5.out.mono ?_
      rintro e w6 ⟨rfl, rfl⟩
      have KL5 := Lib.hid (KL1.out w5 S5.out.pe)
      clear KS5 KL1 f4
      go_wp2_with fail
      refine KL5.out.mono ?_
      rintro e w6 ⟨rfl, hb6⟩
      have S6 := Lib.hid (S5.out.below hb6)
      have KX6 := Lib.hid (KX2.out w6 S6.out.pe)
      clear hb6 S5 KL5 KX2
      go_wp2_with fail
      refine KX6.out.mono ?_
      rintro e w7 ⟨rfl, hb7⟩
      have S7 := Lib.hid (S6.out.below hb7)
      have KG7 := Lib.hid (KG.out w7)
      clear hb7 S6 KX6 KG
      go_wp2_with fail
      refine KG7.out.mono ?_
      rintro e w8 ⟨g8, cp8, rfl, hg8, hz8, hb8⟩
      have S8 := Lib.hid (S7.out.below hb8)
      have KW8 := Lib.hid (KW.out w8 g8 cp8 S8.out.pe hz8)
      clear hg8 hz8 hb8 S7 KG7 KW
      go_wp2_with fail
      refine KW8.out.mono ?_
      rintro e w9 ⟨o1, rfl, hpe, hb9⟩
      have S9 := Lib.hid ((S8.out.two hpe hb9).below (bel_alloc w9 (.cells (smp o1 (d * 1000000) (h + d * 1000000) i) 47)))
      have HC9 := Lib.hid ((S9.out.bel.block _ (heap_lt hNN.out)).trans hNN.out)
      obtain ⟨f0, f1, f2, f3, f4, f5⟩ := six_cells HC9.out
      have e2 := fun d os => cell_regrown f2 d os
      have e4 := fun d os => cell_regrown f4 d os
      have hs9 := heap_alloc_new w9 (.cells (smp o1 (d * 1000000) (h + d * 1000000) i) 47)
      have g1 : (w9.alloc (.cells (smp o1 (d * 1000000) (h + d * 1000000) i) 47)).cell? ⟨w9.heap.size, 1, none⟩ = some (.int .i64 (d * 1000000)) := cell_of_row _ _ 1 _ _ _ hs9
      have g2 : (w9.alloc (.cells (smp o1 (d * 1000000) (h + d * 1000000) i) 47)).cell? ⟨w9.heap.size, 2, none⟩ = some (.int .i64 (h + d * 1000000)) := cell_of_row _ _ 2 _ _ _ hs9
      have g3 : (w9.alloc (.cells (smp o1 (d * 1000000) (h + d * 1000000) i) 47)).cell? ⟨w9.heap.size, 3, none⟩ = some (.int .i64 i) := cell_of_row _ _ 3 _ _ _ hs9
      have e6 := fun d os => cell_regrown g1 d os
      have e7 := fun d os => cell_regrown g2 d os
      have e8 := fun d os => cell_regrown g3 d os
      have r1 : ∀ d' os, Calls Try.prog 22 #[.pointer (some ⟨p, 0, none⟩)] (Sort.grow (redrawn (w9.alloc (.cells (smp o1 (d * 1000000) (h + d * 1000000) i) 47)) d') os) fun e w'' => e = .returned (.int .i64 0) ∧ ∃ p : Regrown, w'' = Sort.grow (redrawn (w9.alloc (.cells (smp o1 (d * 1000000) (h + d * 1000000) i) 47)) p.d) p.os := fun d' os => Calls.regrown_of (same_below (KS3.out _ (regrown_pe S9.out.pe d' os)))
      have r2 : ∀ d' os, Calls Try.prog 24 #[.pointer (some ⟨p, 0, none⟩)] (Sort.grow (redrawn (w9.alloc (.cells (smp o1 (d * 1000000) (h + d * 1000000) i) 47)) d') os) fun e w'' => e = .returned (.int .i64 (h + l * 1000000000)) ∧ ∃ p : Regrown, w'' = Sort.grow (redrawn (w9.alloc (.cells (smp o1 (d * 1000000) (h + d * 1000000) i) 47)) p.d) p.os := fun d' os => Calls.regrown_of (KX3.out _ (regrown_pe S9.out.pe d' os))
      clear hpe hb9 S8 KW8 f0 f1 f2 f3 f4 f5 HC9 g1 g2 g3 hs9 KS3 KX3
      go_wp2_with fail
      refine wp_region_quiet_below (by kernel_rfl) (by kernel_rfl) ?_
      repeat (go_big_quiet_step (first | with_reducible exact r1 _ _ | with_reducible exact r2 _ _))
      refine wpQuiet_nil ?_
      intro w11 hw'
      have hb6 : Below (w9.alloc (.cells (smp o1 (d * 1000000) (h + d * 1000000) i) 47)).heap.size (w9.alloc (.cells (smp o1 (d * 1000000) (h + d * 1000000) i) 47)) w11 := by
        obtain ⟨⟨dq, osq⟩, hw''⟩ := hw'
        rw [hw'']; exact below_regrown _ dq osq
      have S11 := Lib.hid (S9.out.below hb6)
      clear hw' r1 r2 e2 e4 e6 e7 e8 hb6 S9
      go_wp2
      go_roundw
      case rel => exact ⟨i + 1, k3, by omega, by go_num, R3, S11⟩
      case measure => simp [intOf]; omega
    · clear R
      go_wp2
      go_ret
      exact ⟨rfl, bel_trans BW.out S.out.bel⟩
end Go.Proofs.Ytfknefpfekjnnaa
