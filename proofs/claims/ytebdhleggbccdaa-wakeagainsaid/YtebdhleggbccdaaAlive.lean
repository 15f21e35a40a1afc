/- The document's example. -/
import Derived.Test.YtebdhleggbccdaaQuS
namespace Go.Proofs.Ytebdhleggbccdaa
open Go.RowKit Go.Maps ks

def sA : ByteArray := ⟨#[97]⟩
def sB : ByteArray := ⟨#[98]⟩
theorem ok_a : KOk ⟨#[97]⟩ := by unfold KOk maxLen; decide
theorem ok_b : KOk ⟨#[98]⟩ := by unfold KOk maxLen; decide
theorem ex_list : putQ (⟨#[97]⟩ : ByteArray) 4 3 (putQ ⟨#[98]⟩ 3 2 (putQ ⟨#[97]⟩ 5 1 [])) = [(⟨#[98]⟩, 3, 2), (⟨#[97]⟩, 4, 3)] := by decide
theorem ex_ok : Okq 3 ([(⟨#[98]⟩, 3, 2), (⟨#[97]⟩, 4, 3)] : List (En ByteArray)) := by
  have := (((okq_nil (κ := ByteArray) 0).put (by decide) ⟨#[97]⟩ (a := 5) (by decide)).put (by decide) ⟨#[98]⟩ (a := 3) (by decide)).put (by decide) ⟨#[97]⟩ (a := 4) (by decide)
  have e := ex_list
  simpa [e] using this
theorem ex_due : dueQ 4 ([(⟨#[98]⟩, 3, 2), (⟨#[97]⟩, 4, 3)] : List (En ByteArray)) = [(⟨#[98]⟩, 3, 2), (⟨#[97]⟩, 4, 3)] :=
  (due_unique ex_ok (List.Perm.of_eq (by simp [dueF])) (by simp [leE])).symm
theorem ex_next : IsNext ([(⟨#[98]⟩, 3, 2), (⟨#[97]⟩, 4, 3)] : List (En ByteArray)) 3 := ⟨⟨(⟨#[98]⟩, 3, 2), by simp, rfl⟩, by simp⟩

set_option maxRecDepth 100000 in
set_option maxHeartbeats 2000000 in
theorem alive_any (w : World) : Calls Try.prog 9 #[] w fun e w' => e = .returned (.bool true) ∧ Below w.heap.size w w' := by
  go_enter Try.func9, Try.ntmps9
  go_wp2_with fail
  refine (new_any w).mono ?_
  rintro e w1 ⟨rfl, hq1, hb1⟩
  obtain ⟨b, hb⟩ : ∃ b, b = w.heap.size + 1 := ⟨_, rfl⟩
  obtain ⟨m, hm⟩ : ∃ m, m = w.heap.size := ⟨_, rfl⟩
  have R1 := Lib.hid (show Q w1 w.heap.size b m 0 [] by rw [hb, hm]; exact hq1)
  have B1 := Lib.hid hb1
  have HM := Lib.hid (And.intro hm hb)
  rw [← hb]
  clear hq1 hb1 hb hm
  go_wp2_with fail
  refine (set_any R1.out ok_a (by decide) (by omega)).mono ?_
  rintro e w2 ⟨rfl, hq2, t2⟩
  have R2 := Lib.hid hq2
  have B2 := Lib.hid (B1.out.trans (t2.below B1.out.size (by have := HM.out; omega) (fun j hj => by have := HM.out; injection hj; omega)))
  clear hq2 t2 R1 B1
  go_wp2_with fail
  refine (set_any R2.out ok_b (by decide) (by omega)).mono ?_
  rintro e w3 ⟨rfl, hq3, t3⟩
  have R3 := Lib.hid hq3
  have B3 := Lib.hid (B2.out.trans (t3.below B2.out.size (by have := HM.out; omega) (fun j hj => by have := HM.out; injection hj; omega)))
  clear hq3 t3 R2 B2
  go_wp2_with fail
  refine (set_any R3.out ok_a (by decide) (by omega)).mono ?_
  rintro e w4 ⟨rfl, hq4, t4⟩
  have hq4' : Q w4 w.heap.size b m 3 [(⟨#[98]⟩, 3, 2), (⟨#[97]⟩, 4, 3)] := by have := hq4; rwa [show ((0 + 1 + 1 + 1 : Nat) : Int) = 3 by rfl, show ((0 + 1 + 1 : Nat) : Int) = 2 by rfl, show ((0 + 1 : Nat) : Int) = 1 by rfl, ex_list] at this
  have R4 := Lib.hid hq4'
  have B4 := Lib.hid (B3.out.trans (t4.below B3.out.size (by have := HM.out; omega) (fun j hj => by have := HM.out; injection hj; omega)))
  clear hq4 hq4' t4 R3 B3
  go_wp2_with fail
  refine (next_any R4.out (by simp)).mono ?_
  rintro e w5 ⟨⟨n, hn, rfl⟩, hb5⟩
  obtain rfl := hn.one ex_next
  have R5 := Lib.hid (R4.out.below hb5 (Nat.le_refl _))
  have B5 := Lib.hid (bel_trans B4.out hb5)
  clear hn hb5 R4 B4
  go_wp2_with fail
  refine (due_any R5.out (by simp) 4).mono ?_
  rintro e w6 ⟨H, rfl, hH, hl, hb6⟩
  rw [ex_due] at hl
  rw [ex_due]
  obtain ⟨g, o, e1, hg, hc⟩ := hl.open (by simp [keysOf])
  injection e1 with e1
  injection e1 with e1 e2 _
  subst e1 e2
  have c0 : w6.cell? ⟨H, 0, none⟩ = some (.string ⟨#[98]⟩) := hc 0 _ rfl
  have c1 : w6.cell? ⟨H, 1, none⟩ = some (.string ⟨#[97]⟩) := hc 1 _ rfl
  have R6 := Lib.hid (R5.out.below hb6 (Nat.le_refl _))
  have B6 := Lib.hid (bel_trans B5.out hb6)
  clear hl hb6 hH hc hg R5 B5
  simp only [List.length_cons, List.length_nil, Nat.zero_add, Nat.reduceAdd]
  go_wp2_with fail
  refine (len_any R6.out).mono ?_
  rintro e w7 ⟨rfl, rfl⟩
  simp only [List.length_cons, List.length_nil, Nat.zero_add, Nat.reduceAdd]
  go_wp2
  go_ret
  exact ⟨rfl, B6.out⟩
end Go.Proofs.Ytebdhleggbccdaa
