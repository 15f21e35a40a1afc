/- A peer that never answers is given up just behind its patience, and waits twice as long each time. -/
import Derived.Test.YtfknefpfekjnnaaWslow
namespace Go.Proofs.Ytfknefpfekjnnaa
open Go.RowKit

/-- An Idle peer that was asked so many times at most. -/
structure Rest (l m d : Int) (i : Nat) (k : Pr) : Prop where
  ok : k.Ok
  st : k.st = 0
  l : k.l = l
  m : k.m = m
  d : k.d = d
  t : k.t ≤ i
  due : k.due ≤ i * 1024000065535
theorem Rest.new {l m d : Int} (h1 : 4 ≤ l) (h2 : l ≤ m) (h3 : m ≤ 1024) (h4 : 1 ≤ d) (h5 : d ≤ 1000 * l - 2000) : Rest l m d 0 (kn l m d) := by
  refine ⟨?_, rfl, rfl, rfl, rfl, by simp [kn], by simp [kn]⟩
  constructor <;> simp only [kn] <;> first | omega | simp
theorem Rest.next {l m d : Int} {i : Nat} {k : Pr} (h : Rest l m d i k) (hi : i ≤ 1000) : k.next = k.due := by
  have := h.due
  unfold Pr.next
  rw [if_pos h.st]; omega
theorem askE_due {k : Pr} {h x : Int} (h1 : k.st = 0) (h2 : k.due ≤ h) (h3 : 0 ≤ h) (h4 : h ≤ 4611686018427387903) (h5 : x ≠ 0) : k.askE h x = 0 := by
  unfold Pr.askE
  rw [if_neg (by unfold hm; simp; omega), if_neg (by unfold Pr.isDue; simp [h1, h2]), if_neg h5]
set_option maxRecDepth 100000 in
set_option maxHeartbeats 4000000 in
theorem walk_silent (u : Value) (c : Cfg) (a : Int) (w : World) (hc : CfIn w u c) (h1 : 0 ≤ a) (h2 : a ≤ 255) :
    Calls Try.prog 8 #[cval u c, .int .u8 a] w fun e w' => e = .returned (.bool true) ∧ Below w.heap.size w w' := by
  have KA := Lib.hid (fun w => alive_any w)
  obtain ⟨B, cp, hu, hcp⟩ := hc.S.len
  have KN := Lib.hid (fun W (h : Below w.heap.size w W) (e : pnewE c 0 = 0) => pnew_ok u c W (hc.S.below h (Nat.le_refl _)) 0 e)
  have KB := Lib.hid (fun W (h : Below w.heap.size w W) (e : pnewE c 0 ≠ 0) => pnew_bad u c W (hc.S.below h (Nat.le_refl _)) 0 e)
  have HN : Hid (pnewE c 0 = 0 → (4 ≤ c.l ∧ c.l ≤ 1024) ∧ (c.l ≤ c.m ∧ c.m ≤ 1024) ∧ (1 ≤ c.d ∧ c.d ≤ 1000 * c.l - 2000) ∧ c.S.length ≤ 16) := fun e => nums_of (pnewE_ok e).1
  clear hc
  subst hu
  obtain ⟨S, q, l, m, d, s⟩ := c
  simp only [Pr.new] at *
  generalize pnewE (Cfg.mk S q l m d s) 0 = E at *
  unfold cval at *
  simp only at *
  generalize S.length = N at *
  have hNN : Hid ((w.alloc (.cells #[.slice B N cp, .int .i64 q, .int .i64 l, .int .i64 m, .int .i64 d, .int .i64 s] 24)).heap[w.heap.size]? = some (.cells #[.slice B N cp, .int .i64 q, .int .i64 l, .int .i64 m, .int .i64 d, .int .i64 s] 24 (0, 0))) := heap_alloc_new w _
  have BW := Lib.hid (bel_alloc w (.cells #[.slice B N cp, .int .i64 q, .int .i64 l, .int .i64 m, .int .i64 d, .int .i64 s] 24))
  by_cases he : E = 0
  rotate_left
  · have he2 : (E == 0) = false := by simp [he]
    have KB1 := Lib.hid (KB.out _ BW.out he)
    go_enter Try.func8, Try.ntmps8
    go_wp2_with fail
    refine KB1.out.mono ?_
    rintro e w1 ⟨rfl, hb1⟩
    have HB := Lib.hid (bel_trans BW.out hb1)
    clear hb1 KB KN HN KB1
    go_wp2_with fail
    refine (KA.out _).mono ?_
    rintro e w3 ⟨rfl, hb3⟩
    have HB3 := Lib.hid (bel_trans HB.out hb3)
    clear hb3
    go_wp2_with fail
    refine (KA.out _).mono ?_
    rintro e w4 ⟨rfl, hb4⟩
    have HB4 := Lib.hid (bel_trans HB3.out hb4)
    clear hb4
    go_wp2
    go_ret
    exact ⟨rfl, HB4.out⟩
  have KN1 := Lib.hid (KN.out _ BW.out he)
  obtain ⟨⟨l1, l2⟩, ⟨m1, m2⟩, ⟨d1, d2⟩, n16⟩ := HN.out he
  have hd : decide ((50 : Int) < (N : Int)) = false := decide_eq_false (by omega)
  have R0 := Lib.hid (Rest.new l1 m1 m2 d1 d2)
  clear KN KB HN he n16 hcp
  go_enter Try.func8, Try.ntmps8
  go_wp2_with fail
  refine KN1.out.mono ?_
  rintro e w1 ⟨p, b, rfl, hp, hb, hpe, hb1⟩
  obtain ⟨W0, hW0⟩ : ∃ W0, W0 = w.alloc (.cells #[.slice B N cp, .int .i64 q, .int .i64 l, .int .i64 m, .int .i64 d, .int .i64 s] 24) := ⟨_, rfl⟩
  rw [← hW0] at hp hb hb1 hNN BW
  have S1 := Lib.hid (Sp.start hb1 hp hb hpe)
  clear hp hb hpe hb1 hW0 KN1
  go_wp2_with fail
  refine (KA.out _).mono ?_
  rintro e w2 ⟨rfl, hb2⟩
  have S2 := Lib.hid (S1.out.below hb2)
  have HC2 := Lib.hid ((S2.out.bel.block _ (heap_lt hNN.out)).trans hNN.out)
  obtain ⟨f0, f1, f2, f3, f4, f5⟩ := six_cells HC2.out
  clear hb2 S1 f1 f3 f4 f5 HC2
  obtain ⟨r, hr⟩ : ∃ r, a % 20 = r := ⟨_, rfl⟩
  have r1 : 0 ≤ r := by omega
  have r2 : r < 20 := by omega
  obtain ⟨M, rfl⟩ : ∃ M : Nat, r = (M : Int) := ⟨r.toNat, by omega⟩
  clear r1
  go_wp2_with fail
  rw [hr]
  clear hr f0 f2
  go_loopw [7, 39] (fun v7 v39 wi => ∃ (i : Nat) (k : Pr), i ≤ M ∧ v39 = .int .u8 (i : Int) ∧ v7 = .int .i64 k.n ∧ Hid (Rest l m d i k) ∧ Hid (Sp W0 wi p b k)) (fun _ s _ => M - (intOf s).toNat)
  case atStart => exact ⟨0, kn l m d, Nat.zero_le _, rfl, rfl, R0, S2⟩
  case round =>
    clear S2 R0
    obtain ⟨i, k, hi, rfl, rfl, R, S⟩ := hrel
    by_cases hin : i < M
    · have ok := R.out.ok
      have hst := R.out.st
      have hdl := R.out.d
      have KX := Lib.hid (pnext_any p b k wr S.out.pe ok)
      rw [R.out.next (by omega)] at KX
      have hdu := R.out.due
      have hdu0 := ok.u1
      obtain ⟨z, hz⟩ : ∃ z, z = k.due := ⟨_, rfl⟩
      rw [← hz] at KX hdu hdu0
      have hE : k.askE z ((i : Int) + 1) = 0 := askE_due hst (by omega) hdu0 (by omega) (by omega)
      have KQ := Lib.hid (fun W (h : Pe W p b k) => ask_ok p b k W h z 0 ((i : Int) + 1) hE (by omega) (by omega))
      have ok2 := Lib.hid (ok.ask (h := z) (c := 0) (x := (i : Int) + 1) (decide_eq_true ⟨hdu0, by omega⟩) (by decide) (by decide) (by omega) (by omega))
      have hla : (k.ask z 0 ((i : Int) + 1)).last = z + d * 1000000 := by unfold Pr.last Pr.ask; simp only; rw [hdl]
      have KL1 := Lib.hid (fun W (h : Pe W p b (k.ask z 0 ((i : Int) + 1))) => plate_no p b _ W h ok2.out (z + d * 1000000) (by unfold Pr.isLate; rw [hla]; exact decide_eq_false (by omega)))
      have KL2 := Lib.hid (fun W (h : Pe W p b (k.ask z 0 ((i : Int) + 1))) => plate_yes p b _ W h ok2.out (by have := R.out.t; simp only [Pr.ask]; omega) (z + d * 1000000 + 1) (by unfold Pr.isLate; rw [hla]; exact decide_eq_true ⟨rfl, by omega⟩))
      have hnx := (ok.bk (by have := R.out.t; omega)).nx
      simp only [Pr.bk] at hnx
      have hrm := R.out.m
      have hrl := R.out.l
      have hm1 := ok.m1
      have hl1 := ok.l1
      have hn1 := ok.n1
      have hn2 := ok.n2
      have ok3 := Lib.hid (ok2.out.fail (by have := R.out.t; simp only [Pr.ask]; omega))
      obtain ⟨x7, hx7⟩ : ∃ x7, (if m < 2 * k.n then m else 2 * k.n) = x7 := ⟨_, rfl⟩
      have hx8 : nx k.n k.m = x7 := by rw [nx_in (by omega) (by omega) (by omega) (by omega), hrm]; exact hx7
      have R3 : Hid (Rest l m d (i + 1) (k.ask z 0 ((i : Int) + 1)).fail) := ⟨ok3.out, rfl, hrl, hrm, hdl, by have := R.out.t; simp only [Pr.fail, Pr.ask]; omega, by simp only [Pr.fail, Pr.ask]; rw [hx8]; omega⟩
      have h3n : (k.ask z 0 ((i : Int) + 1)).fail.n = x7 := hx8
      have h3d : (k.ask z 0 ((i : Int) + 1)).fail.due = z + x7 * 1000000000 := by show z + nx k.n k.m * 1000000000 = _; rw [hx8]
      have KL3 := Lib.hid (fun W (h : Pe W p b (k.ask z 0 ((i : Int) + 1)).fail) => plate_no p b _ W h ok3.out (z + d * 1000000 + 1) (by unfold Pr.isLate; exact decide_eq_false (by intro h; exact absurd h.1 (show ¬ (0 : Int) = 1 by decide))))
      have KS := Lib.hid (fun W (h : Pe W p b (k.ask z 0 ((i : Int) + 1)).fail) => state_any p b _ W h)
      rw [show (k.ask z 0 ((i : Int) + 1)).fail.st = 0 from rfl] at KS
      have KW := Lib.hid (fun W (h : Pe W p b (k.ask z 0 ((i : Int) + 1)).fail) => wait_any p b _ W h)
      rw [h3n] at KW
      have KX3 := Lib.hid (fun W (h : Pe W p b (k.ask z 0 ((i : Int) + 1)).fail) => pnext_any p b _ W h ok3.out)
      rw [R3.out.next (by omega), h3d] at KX3
      have hw1 : IntKind.i64.wrap (d * 1000000) = d * 1000000 := IntWalk.i64_in _ (by omega)
      have hw2 : IntKind.i64.wrap (z + d * 1000000) = z + d * 1000000 := IntWalk.i64_in _ (by omega)
      have hw3 : IntKind.i64.wrap (z + d * 1000000 + 1) = z + d * 1000000 + 1 := IntWalk.i64_in _ (by omega)
      have hw4 : IntKind.i64.wrap (2 * k.n) = 2 * k.n := IntWalk.i64_in _ (by omega)
      have hw5 : IntKind.i64.wrap (x7 * 1000000000) = x7 * 1000000000 := IntWalk.i64_in _ (by omega)
      have hw6 : IntKind.i64.wrap (z + x7 * 1000000000) = z + x7 * 1000000000 := IntWalk.i64_in _ (by omega)
      generalize (k.ask z 0 ((i : Int) + 1)).fail = k3 at *
      generalize k.ask z 0 ((i : Int) + 1) = k2 at *
      generalize k.n = kn0 at *
      have HN3 := Lib.hid h3n
      clear ok hst hdl hdu hdu0 hz hE ok2 hla hnx hrm hrl hm1 hl1 hn1 hn2 ok3 hx8 h3n h3d
      go_wp2_with fail
      refine KX.out.mono ?_
      rintro e w3 ⟨rfl, hb3⟩
      have S3 := Lib.hid (S.out.below hb3)
      have KQ1 := Lib.hid (KQ.out w3 S3.out.pe)
      clear hb3 KX KQ R S
      go_wp2_with fail
      refine KQ1.out.mono ?_
      rintro e w4 ⟨g, cp4, rfl, hg, hbz, hpe, hb4⟩
      have S4 := Lib.hid (S3.out.two hpe (Two.of_but' hb4))
      have HC4 := Lib.hid ((S4.out.bel.block _ (heap_lt hNN.out)).trans hNN.out)
      obtain ⟨f0, f1, f2, f3, f4, f5⟩ := six_cells HC4.out
      have KL4 := Lib.hid (KL1.out w4 S4.out.pe)
      clear hg hbz hpe hb4 S3 KQ1 KL1 f0 f1 f2 f3 f5 HC4
      go_wp2_with fail
      refine KL4.out.mono ?_
      rintro e w5 ⟨rfl, hb5⟩
      have S5 := Lib.hid (S4.out.below hb5)
      have KL5 := Lib.hid (KL2.out w5 S5.out.pe)
      clear hb5 S4 KL4 KL2 f4
      go_wp2_with fail
      refine KL5.out.mono ?_
      rintro e w6 ⟨rfl, hpe, hb6⟩
      have S6 := Lib.hid (S5.out.two hpe hb6)
      have KL6 := Lib.hid (KL3.out w6 S6.out.pe)
      clear hpe hb6 S5 KL5 KL3
      go_wp2_with fail
      refine KL6.out.mono ?_
      rintro e w7 ⟨rfl, hb7⟩
      have S7 := Lib.hid (S6.out.below hb7)
      have HC7 := Lib.hid ((S7.out.bel.block _ (heap_lt hNN.out)).trans hNN.out)
      obtain ⟨f0, f1, f2, f3, f4, f5⟩ := six_cells HC7.out
      have KS7 := Lib.hid (KS.out w7 S7.out.pe)
      clear hb7 S6 KL6 KS f0 f1 f2 f4 f5 HC7
      go_wp2_with fail
      refine KS7.out.mono ?_
      rintro e w8 ⟨rfl, rfl⟩
      have KW7 := Lib.hid (KW.out w7 S7.out.pe)
      clear KS7 KW f3
      go_wp2_with fail
      refine KW7.out.mono ?_
      rintro e w8 ⟨rfl, rfl⟩
      have KX7 := Lib.hid (KX3.out w7 S7.out.pe)
      clear KW7 KX3
      go_wp2_with fail
      refine KX7.out.mono ?_
      rintro e w9 ⟨rfl, hb9⟩
      have S9 := Lib.hid (S7.out.below hb9)
      clear hb9 S7 KX7
      go_wp2
      go_roundw
      case rel => exact ⟨i + 1, k3, by omega, by go_num, by rw [HN3.out], R3, S9⟩
      case measure => simp [intOf]; omega
    · clear R
      go_wp2
      go_ret
      exact ⟨rfl, bel_trans BW.out S.out.bel⟩
end Go.Proofs.Ytfknefpfekjnnaa
