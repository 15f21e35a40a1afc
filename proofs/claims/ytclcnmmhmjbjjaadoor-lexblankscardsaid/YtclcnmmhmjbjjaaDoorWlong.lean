/- LexLong's walk. -/
import Derived.Test.YtclcnmmhmjbjjaaDoorAlive
import Derived.Test.YtclcnmmhmjbjjaaDoorLaid
namespace Go.Proofs.Lx
open Go

theorem wrd_letters : ∀ (l : Bs) (acc : List Bs) (cur : Bs), (∀ c ∈ l, blankB c = false) → wrd acc cur l = addW acc (cur ++ l)
  | [], acc, cur, _ => by simp [wrd]
  | c :: l, acc, cur, h => by
    rw [wrd, if_neg (by rw [h c (by simp)]; simp), wrd_letters l acc _ (fun x hx => h x (by simp [hx]))]
    simp
theorem as_of (n : Nat) : ∀ c ∈ List.replicate n (97 : UInt8), c = 97 := fun _ hc => (List.mem_replicate.1 hc).2
theorem said_all : ∀ (l : Bs), (∀ c ∈ l, c ≠ 35) → said l = l
  | [], _ => rfl
  | c :: l, h => by
    have h1 := h c (by simp)
    have := said_all l (fun x hx => h x (by simp [hx]))
    unfold said at this ⊢
    rw [List.takeWhile_cons, if_pos (by simp [h1]), this]
theorem rep_eq : ∀ n : Nat, Lib.repeatL [97] n = List.replicate n 97
  | 0 => rfl
  | n + 1 => by rw [Lib.repeatL, rep_eq n]; rfl
theorem out_as (n : Nat) (h0 : 0 < n) (h : n ≤ 65536) : outOf (List.replicate n 97) = ([(1, [List.replicate n 97])], 0, 0) := by
  unfold outOf res
  rw [if_neg (by simp; omega), linesOf_one _ (fun hc => absurd (as_of n _ hc) (by decide))]
  have hs : said (List.replicate n 97) = List.replicate n 97 := said_all _ (fun c hc => by rw [as_of n c hc]; decide)
  have hp : plainB (List.replicate n 97) = true := List.all_eq_true.2 fun c hc => by rw [as_of n c hc]; decide
  have hne : List.replicate n (97 : UInt8) ≠ [] := by simp; omega
  have hw : wordsOf (List.replicate n 97) = [List.replicate n 97] := by
    unfold wordsOf
    rw [wrd_letters _ _ _ (fun c hc => by rw [as_of n c hc]; decide), List.nil_append, addW, if_neg hne]; rfl
  rw [linesFrom, hs, if_pos hp, hw, linesFrom, addL, if_neg (by simp)]; rfl
end Go.Proofs.Lx
namespace Go.Proofs.YtclcnmmhmjbjjaaDoor
open Go.RowKit Go.Proofs.Lx

theorem str_mk' (l : Bs) : ∃ p : ByteArray, Str l = .string p ∧ p.data.toList = l := ⟨⟨l.toArray⟩, rfl, by simp⟩
theorem rep_any (n : Nat) (w : World) (h : n ≤ 100000) :
    Calls Tryd.prog 18 #[.string ⟨#[97]⟩, .int .i64 (n : Int)] w fun e w' => ∃ s : ByteArray, e = .returned (.string s) ∧ Hid (s.data.toList = List.replicate n 97) ∧ Below w.heap.size w w' := by
  refine (Tryd.strings_Repeat ⟨#[97]⟩ n w (by omega) (by rw [show (⟨#[97]⟩ : ByteArray).size = 1 from rfl]; omega)).mono ?_
  rintro e w' ⟨rfl, hb⟩
  refine ⟨_, rfl, ?_, hb⟩
  exact rep_eq n

set_option maxRecDepth 100000 in
set_option maxHeartbeats 4000000 in
theorem walk_lexLong (a0 : Int) (w : World) (w0 : (Lit.int .u8 a0).wf = true) (hm : Mx w) :
    Calls Tryd.prog 5 #[.int .u8 a0] w fun e w' => e = .returned (.bool true) ∧ Below w.heap.size w w' := by
  obtain ⟨bl, bu⟩ := bounds_u8 w0
  have HM := Lib.hid hm
  clear hm w0
  obtain ⟨n, hn⟩ : ∃ n : Nat, 65535 + a0 % 3 = (n : Int) := ⟨(65535 + a0 % 3).toNat, by omega⟩
  have K18 : Hid (∀ w, Calls Tryd.prog 18 #[.string ⟨#[97]⟩, .int .i64 (65535 + a0 % 3)] w fun e w' => ∃ s : ByteArray, e = .returned (.string s) ∧ Hid (s.data.toList = List.replicate n 97) ∧ Below w.heap.size w w') := by
    rw [hn]; exact fun w => rep_any n w (by omega)
  have KL : Hid (∀ (s : ByteArray) (w : World), Mx w → s.data.toList = List.replicate n 97 → Calls Tryd.prog 11 #[.string s] w fun e w' => LinesPost 41 w (List.replicate n 97) e w') := fun s w hm hs => by
    have := lines_any s w (by rw [← len_eq, hs]; simp; omega) hm
    rw [hs] at this; exact this
  have HNN := Lib.hid hn
  clear hn
  by_cases hg : (65536 : Int) < 65535 + a0 % 3
  · have HO := Lib.hid (out_long (List.replicate n 97) (by have := HNN.out; simp; omega))
    go_enter Tryd.func5, Tryd.ntmps5
    go_wp2_with fail
    refine (K18.out w).mono ?_
    rintro e w1 ⟨s, rfl, HS, hb1⟩
    go_wp2_with fail
    refine (KL.out s w1 (HM.out.below hb1 (Nat.le_refl _)) HS.out).mono ?_
    rintro e w2 ⟨v, hv, rfl, hb2⟩
    rw [HO.out] at hv ⊢
    obtain ⟨A, c, rfl, _⟩ := hv.len
    have hb12 : Below w.heap.size w w2 := hb1.trans (hb2.mono hb1.size)
    have HM2 := Lib.hid (HM.out.below hb12 (Nat.le_refl _))
    clear hv
    simp only [List.length_nil]
    go_wp2_with fail
    refine (alive_any w2 HM2.out).mono ?_
    rintro e w3 ⟨rfl, hb3⟩
    go_wp2
    go_ret
    exact ⟨rfl, hb12.trans (hb3.mono hb12.size)⟩
  · have HO := Lib.hid (out_as n (by have := HNN.out; omega) (by have := HNN.out; omega))
    go_enter Tryd.func5, Tryd.ntmps5
    go_wp2_with fail
    refine (K18.out w).mono ?_
    rintro e w1 ⟨s, rfl, HS, hb1⟩
    go_wp2_with fail
    refine (KL.out s w1 (HM.out.below hb1 (Nat.le_refl _)) HS.out).mono ?_
    rintro e w2 ⟨v, hv, rfl, hb2⟩
    rw [HO.out] at hv ⊢
    have hb12 : Below w.heap.size w w2 := hb1.trans (hb2.mono hb1.size)
    have HM2 := Lib.hid (HM.out.below hb12 (Nat.le_refl _))
    have HV := Lib.hid hv
    obtain ⟨g, c, rfl, hc, hg', hk⟩ := hv.at_ (by simp)
    clear hv hk
    simp only [List.length_cons, List.length_nil, Nat.zero_add] at hc ⊢
    go_wp2_with fail
    refine (alive_any w2 HM2.out).mono ?_
    rintro e w3 ⟨rfl, hb3⟩
    obtain ⟨g', c', q1, _, _, hk⟩ := (HV.out.below hb3 (Nat.le_refl _)).at_ (by simp)
    injection q1 with q1 _ q3
    injection q1 with q1
    injection q1 with q1 _ _
    subst q1
    obtain ⟨_, u, x1, x2⟩ := hk 0 1 _ rfl
    obtain ⟨g2, c2, rfl, hc2, _, hk2⟩ := x2.at_ (by simp)
    have x3 := hk2 0 _ rfl
    obtain ⟨p, hp, hp2⟩ := str_mk' (List.replicate n 97)
    rw [hp] at x3
    have hpz : (p.size : Int) = 65535 + a0 % 3 := by
      rw [← len_eq, hp2]; have := HNN.out; simp; omega
    clear hk hk2 x2 hp hp2 q3
    simp only [List.length_cons, List.length_nil, Nat.zero_add, Nat.mul_zero] at x1 x3 hc2
    go_wp2
    go_ret
    exact ⟨rfl, hb12.trans (hb3.mono hb12.size)⟩
end Go.Proofs.YtclcnmmhmjbjjaaDoor
