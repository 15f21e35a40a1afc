/- WakeTwo's walk. -/
import Derived.Test.YtebdhleggbccdaaTq
namespace Go.Proofs.Ytebdhleggbccdaa
open Go.RowKit Go.Maps

set_option maxRecDepth 100000 in
set_option maxHeartbeats 1000000 in
theorem walk_two (A : Option Addr) (len cap : Nat) (w : World) (hz : ActsIn w A len cap) :
    Calls Try.prog 7 #[.slice A len cap] w fun e w' => e = .returned (.bool true) ∧ Below w.heap.size w w' := by
  obtain ⟨hlc, hcm, zs, hzl, hzs⟩ := hz
  have l2 : cap ≤ 9223372036854775807 := by unfold maxLen at hcm; omega
  have Z := Lib.hid (And.intro hzs hzl)
  clear hzs hzl
  go_enter Try.func7, Try.ntmps7
  go_wp2_with fail
  refine (ks.new_any _).mono ?_
  rintro e w1 ⟨rfl, hq1, hb1⟩
  obtain ⟨b1, eb1⟩ : ∃ b, b = w.heap.size + 1 := ⟨_, rfl⟩
  obtain ⟨m1, em1⟩ : ∃ m, m = w.heap.size := ⟨_, rfl⟩
  have R1 := Lib.hid (Oq.new (Below.refl w.heap.size w) eb1 em1 hq1 hb1)
  rw [← eb1]
  clear hq1 hb1 eb1 em1
  go_wp2_with fail
  refine (ks.new_any _).mono ?_
  rintro e w2 ⟨rfl, hq2, hb2⟩
  obtain ⟨b2, eb2⟩ : ∃ b, b = w1.heap.size + 1 := ⟨_, rfl⟩
  obtain ⟨m2, em2⟩ : ∃ m, m = w1.heap.size := ⟨_, rfl⟩
  have R2 := Lib.hid (And.intro (R1.out.below hb2) (Oq.new R1.out.bel eb2 em2 hq2 hb2))
  have N := Lib.hid (show b1 ≠ b2 ∧ b1 ≠ m2 ∧ m1 ≠ b2 ∧ m1 ≠ m2 by have := R1.out.q.lt; have := R1.out.q.ltm; omega)
  have N2 := Lib.hid (show b2 ≠ b1 ∧ b2 ≠ m1 ∧ m2 ≠ b1 ∧ m2 ≠ m1 by have := N.out; omega)
  rw [← eb2]
  clear hq2 hb2 eb2 em2 R1
  go_wp2_with fail
  refine (alive_any _).mono ?_
  rintro e w3 ⟨rfl, hb3⟩
  have R3 := Lib.hid (And.intro (R2.out.1.below hb3) (R2.out.2.below hb3))
  clear hb3 R2
  by_cases hlen : 100 < len
  · go_wp2_with fail
    refine (alive_any _).mono ?_
    rintro e w4 ⟨rfl, hb4⟩
    have R4 := Lib.hid (bel_trans R3.out.1.bel hb4)
    clear hb4 R3
    go_wp2
    go_ret
    exact ⟨rfl, R4.out⟩
  go_wp2
  go_loopw [35] (fun v35 wr => ∃ i : Nat, i ≤ len ∧ v35 = .int .i64 (i : Int) ∧ Hid (∃ s L, s ≤ i ∧ Oq w wr b1 m1 s L ∧ Oq w wr b2 m2 0 [] ∧ ∀ e ∈ L, ∃ z ∈ zs, z.s = e.1)) (fun s _ => len - (intOf s).toNat)
  case atStart => exact ⟨0, Nat.zero_le _, rfl, Lib.hid ⟨0, [], Nat.le_refl _, R3.out.1, R3.out.2, by simp⟩⟩
  case round =>
    clear R3
    obtain ⟨i, hi, rfl, RW⟩ := hrel
    by_cases hlt : i < len
    · obtain ⟨s, L, hsi, q1, q2, hin⟩ := RW.out
      obtain ⟨z, hzi⟩ : ∃ z, zs[i]? = some z := ⟨zs[i]'(by have := Z.out.2; omega), List.getElem?_eq_getElem _⟩
      obtain ⟨g, o, rfl, hg, c0, c1, c2⟩ := (Z.out.1.later q1.bel).at' i z hzi
      have hzm := List.mem_of_getElem? hzi
      have hzin := Z.out.1.ok z hzm
      obtain ⟨zk, zt, za⟩ := z
      obtain ⟨W, hW⟩ : ∃ W, W = wr.alloc (.cells #[.int .i64 zk, .string zt, .int .i64 za] 31) := ⟨_, rfl⟩
      obtain ⟨P, hP⟩ : ∃ P, P = wr.heap.size := ⟨_, rfl⟩
      have hbW : Below wr.heap.size wr W := by rw [hW]; exact (Below.refl _ _).alloc (Nat.le_refl _) _
      have aP : ActB W P ⟨zk, zt, za⟩ := by rw [hW, hP]; exact ActB.new wr ⟨zk, zt, za⟩
      have nP : P ≠ b1 ∧ P ≠ m1 := by have := q1.q.lt; have := q1.q.ltm; omega
      have R0 := Lib.hid (And.intro (q1.below hbW) (And.intro (q2.below hbW) (And.intro aP (And.intro nP (And.intro hsi hin)))))
      have HZ := Lib.hid (And.intro hzm (And.intro (show ks.KOk zt from hzin.s1) (show (Lit.int .i64 za).wf = true from hzin.a1)))
      have HW := Lib.hid (And.intro hW hP)
      clear q1 q2 hin hzi hg hzm hzin hbW aP nP hW hP RW
      go_wp2_with fail
      rw [← HW.out.1, ← HW.out.2]
      clear c0 c1 c2 HW
      refine (ks.set_any R0.out.1.q HZ.out.2.1 HZ.out.2.2 (by omega)).mono ?_
      rintro e w4 ⟨rfl, hq4, t4⟩
      have aP4 := R0.out.2.2.1.two t4 R0.out.2.2.2.1.1 R0.out.2.2.2.1.2
      have hans := atQ_put hq4.ok
      have R4 := Lib.hid (And.intro (R0.out.1.wrote hq4 t4) (And.intro (R0.out.2.1.other R0.out.1 t4 N2.out) aP4))
      have e1 := aP4.cells.2.1
      have HI := Lib.hid (show ∀ e ∈ putQ zt za ((s + 1 : Nat) : Int) L, ∃ z ∈ zs, z.s = e.1 from fun e he => by
        rcases List.mem_append.1 he with he | he
        · exact R0.out.2.2.2.2.2 e (mem_drop.1 he).1
        · simp at he; subst he; exact ⟨_, HZ.out.1, rfl⟩)
      have HA := Lib.hid hans
      clear hq4 t4 aP4 hans R0
      go_wp2_with fail
      refine (ks.at_any R4.out.1.q HZ.out.2.1).mono ?_
      rintro e w5 ⟨rfl, hb5⟩
      rw [HA.out]
      have R5 := Lib.hid (And.intro (R4.out.1.below hb5) (R4.out.2.1.below hb5))
      have e2 := (R4.out.2.2.below hb5).cells.2.2
      simp only [Option.getD_some, Option.isSome_some]
      clear hb5 R4 e1
      go_wp2_with fail
      refine (ks.len_any R5.out.2.q).mono ?_
      rintro e w6 ⟨rfl, rfl⟩
      simp only [List.length_nil]
      go_wp2
      refine ⟨⟨i + 1, by omega, by go_num, Lib.hid ⟨s + 1, _, by omega, R5.out.1, R5.out.2, HI.out⟩⟩, ?_⟩
      simp [intOf]; omega
    · obtain rfl : i = len := by omega
      obtain ⟨s, L, hsi, q1, q2, hin⟩ := RW.out
      have R3 := Lib.hid (And.intro q1 (And.intro hin hsi))
      clear q1 q2 hin RW
      obtain ⟨wo, rfl⟩ : ∃ wo, wo = wr := ⟨_, rfl⟩
      go_wp2
      go_loopw [68] (fun v68 wr => ∃ j : Nat, j ≤ i ∧ v68 = .int .i64 (j : Int) ∧ Hid (∃ L, Oq w wr b1 m1 s L ∧ ∀ e ∈ L, ∃ t z, j ≤ t ∧ zs[t]? = some z ∧ z.s = e.1)) (fun s _ => i - (intOf s).toNat)
      case atStart => exact ⟨0, Nat.zero_le _, rfl, Lib.hid ⟨L, R3.out.1, fun e he => by
        obtain ⟨z, hz, hze⟩ := R3.out.2.1 e he
        obtain ⟨t, ht, rfl⟩ := List.getElem_of_mem hz
        exact ⟨t, _, Nat.zero_le _, List.getElem?_eq_getElem ht, hze⟩⟩⟩
      case round =>
        clear R3
        obtain ⟨j, hj, rfl, RW⟩ := hrel
        by_cases hlt : j < i
        · obtain ⟨L, q1, hin⟩ := RW.out
          obtain ⟨z, hzi⟩ : ∃ z, zs[j]? = some z := ⟨zs[j]'(by have := Z.out.2; omega), List.getElem?_eq_getElem _⟩
          obtain ⟨g, o, rfl, hg, c0, c1, c2⟩ := (Z.out.1.later q1.bel).at' j z hzi
          have hzin := Z.out.1.ok z (List.mem_of_getElem? hzi)
          obtain ⟨zk, zt, za⟩ := z
          obtain ⟨W, hW⟩ : ∃ W, W = wr.alloc (.cells #[.int .i64 zk, .string zt, .int .i64 za] 31) := ⟨_, rfl⟩
          obtain ⟨P, hP⟩ : ∃ P, P = wr.heap.size := ⟨_, rfl⟩
          have hbW : Below wr.heap.size wr W := by rw [hW]; exact (Below.refl _ _).alloc (Nat.le_refl _) _
          have aP : ActB W P ⟨zk, zt, za⟩ := by rw [hW, hP]; exact ActB.new wr ⟨zk, zt, za⟩
          have nP : P ≠ b1 ∧ P ≠ m1 := by have := q1.q.lt; have := q1.q.ltm; omega
          have R0 := Lib.hid (And.intro (q1.below hbW) (And.intro aP nP))
          have HZ := Lib.hid (show ks.KOk zt from hzin.s1)
          have HI := Lib.hid (show ∀ e ∈ dropQ zt L, ∃ t z, j + 1 ≤ t ∧ zs[t]? = some z ∧ z.s = e.1 from fun e he => by
            obtain ⟨h1, h2⟩ := mem_drop.1 he
            obtain ⟨t, z, ht, hzt, hze⟩ := hin e h1
            refine ⟨t, z, ?_, hzt, hze⟩
            rcases Nat.lt_or_ge j t with h | h
            · exact h
            · have : t = j := by omega
              subst this
              rw [hzi] at hzt
              injection hzt with hzt
              subst hzt
              exact absurd hze.symm h2)
          have HW := Lib.hid (And.intro hW hP)
          clear q1 hin hzi hg hzin hbW aP nP hW hP RW
          go_wp2_with fail
          rw [← HW.out.1, ← HW.out.2]
          clear c0 c1 c2 HW
          refine (ks.drop_any R0.out.1.q HZ.out).mono ?_
          rintro e w4 ⟨rfl, hq4, t4⟩
          have aP4 := R0.out.2.1.two t4 R0.out.2.2.1 R0.out.2.2.2
          have R4 := Lib.hid (R0.out.1.wrote hq4 t4)
          have e1 := aP4.cells.2.1
          clear hq4 t4 aP4 R0
          go_wp2_with fail
          refine (ks.at_any R4.out.q HZ.out).mono ?_
          rintro e w5 ⟨rfl, hb5⟩
          rw [atQ_drop]
          have R5 := Lib.hid (R4.out.below hb5)
          simp only [Option.getD_none, Option.isSome_none]
          clear hb5 R4 e1
          go_wp2
          refine ⟨⟨j + 1, by omega, by go_num, Lib.hid ⟨_, R5.out, HI.out⟩⟩, ?_⟩
          simp [intOf]; omega
        · obtain rfl : j = i := by omega
          obtain ⟨L, q1, hin⟩ := RW.out
          have hL : L = [] := by
            cases L with
            | nil => rfl
            | cons e r =>
              obtain ⟨t, z, ht, hzt, _⟩ := hin e (by simp)
              have := (List.getElem?_eq_some_iff.1 hzt).1
              have := Z.out.2
              omega
          subst hL
          have R5 := Lib.hid q1
          clear q1 hin RW
          go_wp2_with fail
          refine (ks.next_none R5.out.q).mono ?_
          rintro e w6 ⟨rfl, rfl⟩
          go_wp2_with fail
          refine (ks.len_any R5.out.q).mono ?_
          rintro e w7 ⟨rfl, rfl⟩
          simp only [List.length_nil]
          go_wp2
          go_ret
          exact ⟨rfl, R5.out.bel⟩
end Go.Proofs.Ytebdhleggbccdaa
