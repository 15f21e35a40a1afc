/- Print, of a config that may be. -/
import Derived.Test.YtlbabhddjdhalaaDoorPrint2
import Derived.Test.YtlbabhddjdhalaaDoorSame
namespace Go.Proofs.YtlbabhddjdhalaaDoor
open Go.RowKit Go.Proofs.Lx

theorem arr_size (l : Bs) : (⟨l.toArray⟩ : ByteArray).size = l.length := rfl
theorem sizes (c : Cfg) (h : c.S.length ≤ 16) : (srvT c.S).length + (⟨(lineOf wQuorum [c.q]).toArray⟩ : ByteArray).size ≤ 100000 ∧ (srvT c.S ++ lineOf wQuorum [c.q]).length + (⟨(lineOf wPoll [c.l, c.m]).toArray⟩ : ByteArray).size ≤ 100000 ∧ (srvT c.S ++ lineOf wQuorum [c.q] ++ lineOf wPoll [c.l, c.m]).length + (⟨(lineOf wDelay [c.d]).toArray⟩ : ByteArray).size ≤ 100000 ∧ (srvT c.S ++ lineOf wQuorum [c.q] ++ lineOf wPoll [c.l, c.m] ++ lineOf wDelay [c.d]).length + (⟨(lineOf wSlew [c.s]).toArray⟩ : ByteArray).size ≤ 100000 := by
  have h0 := srvT_len c.S
  have h1 := line_len wQuorum [c.q] (by decide) (by simp)
  have h2 := line_len wPoll [c.l, c.m] (by decide) (by simp)
  have h3 := line_len wDelay [c.d] (by decide) (by simp)
  have h4 := line_len wSlew [c.s] (by decide) (by simp)
  simp only [arr_size, List.length_append]
  refine ⟨by omega, by omega, by omega, by omega⟩

set_option maxRecDepth 100000 in
set_option maxHeartbeats 4000000 in
theorem print_ok (v : Value) (c : Cfg) (w : World) (h : Ints w v c.S) (hl : c.S.length ≤ 16) (hx : checkOf c = 0) (hr : ∀ x ∈ c.S, i64 x) (rq : i64 c.q) (rl : i64 c.l) (rm : i64 c.m) (rd : i64 c.d) (rs : i64 c.s) (hp : Pow w) :
    Calls Tryd.prog 11 #[cval v c] w fun e w' => e = .returned (.tuple #[.string ⟨(printOf c).toArray⟩, .int .i64 0]) ∧ Below w.heap.size w w' := by
  obtain ⟨A, cp, rfl, hc⟩ := h.len
  obtain ⟨W, hW⟩ : ∃ W, W = w.alloc (.cells #[.slice A c.S.length cp, .int .i64 c.q, .int .i64 c.l, .int .i64 c.m, .int .i64 c.d, .int .i64 c.s] 24) := ⟨_, rfl⟩
  have hbW : Below w.heap.size w W := by rw [hW]; exact (Below.refl _ _).alloc (Nat.le_refl _) _
  have g1 : W.heap[w.heap.size]? = some (.cells #[.slice A c.S.length cp, .int .i64 c.q, .int .i64 c.l, .int .i64 c.m, .int .i64 c.d, .int .i64 c.s] 24 (0, 0)) := by rw [hW]; exact heap_alloc_new _ _
  have hsW : W.heap.size = w.heap.size + 1 := by rw [hW]; simp
  have K := Lib.hid (check_any _ c W (h.below hbW (Nat.le_refl _)) (by omega))
  rw [hx] at K
  have HI := Lib.hid h
  have HR := Lib.hid hr
  have HSZ := Lib.hid (sizes c hl)
  have HRq : Hid (∀ x ∈ [c.q], i64 x) := fun x hx => by simp at hx; subst hx; exact rq
  have HRp : Hid (∀ x ∈ [c.l, c.m], i64 x) := fun x hx => by simp at hx; rcases hx with rfl | rfl; exact rl; exact rm
  have HRd : Hid (∀ x ∈ [c.d], i64 x) := fun x hx => by simp at hx; subst hx; exact rd
  have HRs : Hid (∀ x ∈ [c.s], i64 x) := fun x hx => by simp at hx; subst hx; exact rs
  unfold cval at K ⊢
  obtain ⟨N, hN⟩ : ∃ N, N = c.S.length := ⟨_, rfl⟩
  have HN := Lib.hid hN
  rw [← hN] at K hW HI g1 hl hc ⊢
  have HG1 := Lib.hid g1
  have HP := Lib.hid hp
  have HBW := Lib.hid hbW
  have HSW := Lib.hid hsW
  clear h hN hr rq rl rm rd rs hx g1 hp hbW hsW
  go_enter Tryd.func11, Tryd.ntmps11
  go_wp2_with (rw [← hW]; go_at_call 13; refine K.out.mono ?_; rintro e w1 ⟨rfl, hb1⟩; obtain ⟨k0, _⟩ := six_cells ((hb1.block w.heap.size (by have := HSW.out; omega)).trans HG1.out); have HB1 := Lib.hid hb1; have hlt1 : w.heap.size < w1.heap.size := (by have := hb1.size; have := HSW.out; omega); clear hb1)
  have HW1 : Hid (Below w.heap.size w w1) := HBW.out.trans (HB1.out.mono (by have := HSW.out; omega))
  have HCE : Hid (∀ u, Below w1.heap.size w1 u → u.cell? ⟨w.heap.size, 0, none⟩ = some (.slice A N cp) ∧ u.cell? ⟨w.heap.size, 1, none⟩ = some (.int .i64 c.q) ∧ u.cell? ⟨w.heap.size, 2, none⟩ = some (.int .i64 c.l) ∧ u.cell? ⟨w.heap.size, 3, none⟩ = some (.int .i64 c.m) ∧ u.cell? ⟨w.heap.size, 4, none⟩ = some (.int .i64 c.d) ∧ u.cell? ⟨w.heap.size, 5, none⟩ = some (.int .i64 c.s)) := fun u hu =>
    six_cells ((hu.block w.heap.size hlt1).trans ((HB1.out.block w.heap.size (by have := HSW.out; omega)).trans HG1.out))
  have HPW : Hid (Pow w1) := HP.out.below HW1.out (Nat.le_refl _)
  obtain ⟨w2, hw2⟩ : ∃ w2, w2 = w1.alloc (.cells #[.pointer none, .slice none 0 0] 50) := ⟨_, rfl⟩
  have HL20 : Hid (Bld w2 w1.heap.size []) := by
    show Bld _ _ _
    rw [hw2]; exact bld_new w1
  have HB20 : Hid (Below w1.heap.size w1 w2) := by
    show Below _ _ _
    rw [hw2]; exact (Below.refl _ _).alloc (Nat.le_refl _) _
  rw [← hw2]
  clear hw2 k0 hW K
  go_loopw [16] (fun i wr => ∃ k : Nat, k ≤ N ∧ i = .int .i64 k ∧ Hid (Bld wr w1.heap.size (srvT (c.S.take k))) ∧ Hid (Below w1.heap.size w1 wr)) (fun i _ => N - (intOf i).toNat)
  case atStart => exact ⟨0, Nat.zero_le _, rfl, HL20, HB20⟩
  case round =>
    obtain ⟨k, hk, rfl, HL0, HB0⟩ := hrel
    have hsr := HB0.out.size
    obtain ⟨k0, k1, k2, k3, k4, k5⟩ := HCE.out wr HB0.out
    by_cases hkN : k < N
    · have hkx : k < c.S.length := by have := HN.out; omega
      obtain ⟨g, o, rfl, hg, hcell⟩ := (HI.out.below (HW1.out.trans (HB0.out.mono (Nat.le_of_lt hlt1))) (Nat.le_refl _)).at_ k hkx
      have HS := Lib.hid (take_srvT hkx)
      have HRx : Hid (∀ x ∈ [c.S[k]], i64 x) := fun x hx => by simp at hx; subst hx; exact HR.out _ (List.getElem_mem hkx)
      have HZ : Hid ((srvT (c.S.take k)).length + (⟨(lineOf wServer [c.S[k]]).toArray⟩ : ByteArray).size ≤ 100000) := by
        have h0 := srvT_len (c.S.take k)
        have h1 := line_len wServer [c.S[k]] (by decide) (by simp)
        have : (c.S.take k).length ≤ k := by simp; omega
        show _ ≤ _
        rw [arr_size]; omega
      obtain ⟨x, hxx⟩ : ∃ x, x = c.S[k] := ⟨_, rfl⟩
      rw [← hxx] at hcell HS HRx HZ
      clear hxx hkx k1 k2 k3 k4 k5
      go_wp2_with (first
        | (go_at_call 24; refine (write_any a0 w1.heap.size (srvT (c.S.take k)) _ HX0.out HZ.out HY0.out.size).mono ?_; rintro e b0 ⟨rfl, hwl, hwb⟩)
        | (go_at_call 25; refine (line_any ⟨#[115, 101, 114, 118, 101, 114]⟩ _ [x] _ (ints_one wr x) (by decide) (by simp) HRx.out (HPW.out.below (HB0.out.alloc hsr (.cells #[.int .i64 x] 3)) (Nat.le_refl _))).mono ?_; rintro e a0 ⟨rfl, hba⟩; have HX0 := Lib.hid ((HL0.out.below ((Below.refl _ _).alloc (Nat.le_refl _) (.cells #[.int .i64 x] 3))).below hba); have HY0 : Hid (Below w1.heap.size w1 a0) := (HB0.out.alloc hsr (.cells #[.int .i64 x] 3)).trans (hba.mono (by simp; omega)); clear hba))
      have hl2 : Bld b0 w1.heap.size (srvT (c.S.take (k + 1))) := by rw [HS.out]; exact hwl
      have hb2 := HY0.out.trans hwb
      go_roundw
      case rel => exact ⟨k + 1, by omega, by go_num, hl2, hb2⟩
      case measure => simp [intOf]; omega
    · have hl3 := HL0.out
      rw [List.take_of_length_le (by have := HN.out; omega)] at hl3
      have HL0 := Lib.hid hl3
      clear hl3
      go_wp2_with (first
          | (go_at_call 26; refine (Tryd.Builder_String_any w1.heap.size w1.heap.size (printOf c) b4 HL4.out HB4.out.size).mono ?_; rintro e b5 ⟨rfl, hb5⟩; have HB5 := Lib.hid (HB4.out.trans hb5); clear hb5)
          | (go_at_call 24; refine (write_any a4 w1.heap.size (srvT c.S ++ lineOf wQuorum [c.q] ++ lineOf wPoll [c.l, c.m] ++ lineOf wDelay [c.d]) _ HX4.out HSZ.out.2.2.2  HY4.out.size).mono ?_; rintro e b4 ⟨rfl, hwl, hwb⟩; have HL4 : Hid (Bld b4 w1.heap.size (srvT c.S ++ lineOf wQuorum [c.q] ++ lineOf wPoll [c.l, c.m] ++ lineOf wDelay [c.d] ++ lineOf wSlew [c.s])) := hwl; have HB4 : Hid (Below w1.heap.size w1 b4) := HY4.out.trans hwb; obtain ⟨_, k1, k2, k3, k4, k5⟩ := HCE.out b4 HB4.out; clear hwl hwb)
          | (go_at_call 25; refine (line_any ⟨#[115, 108, 101, 119]⟩ _ [c.s] _ (ints_one b3 c.s) (by decide) (by simp) HRs.out (HPW.out.below (HB3.out.alloc HB3.out.size (.cells #[.int .i64 c.s] 3)) (Nat.le_refl _))).mono ?_; rintro e a4 ⟨rfl, hba⟩; have HX4 := Lib.hid ((HL3.out.below ((Below.refl _ _).alloc (Nat.le_refl _) (.cells #[.int .i64 c.s] 3))).below hba); have HY4 : Hid (Below w1.heap.size w1 a4) := (HB3.out.alloc HB3.out.size (.cells #[.int .i64 c.s] 3)).trans (hba.mono (by have := HB3.out.size; simp; omega)); clear hba)
          | (go_at_call 24; refine (write_any a3 w1.heap.size (srvT c.S ++ lineOf wQuorum [c.q] ++ lineOf wPoll [c.l, c.m]) _ HX3.out HSZ.out.2.2.1 HY3.out.size).mono ?_; rintro e b3 ⟨rfl, hwl, hwb⟩; have HL3 : Hid (Bld b3 w1.heap.size (srvT c.S ++ lineOf wQuorum [c.q] ++ lineOf wPoll [c.l, c.m] ++ lineOf wDelay [c.d])) := hwl; have HB3 : Hid (Below w1.heap.size w1 b3) := HY3.out.trans hwb; obtain ⟨_, k1, k2, k3, k4, k5⟩ := HCE.out b3 HB3.out; clear hwl hwb)
          | (go_at_call 25; refine (line_any ⟨#[100, 101, 108, 97, 121]⟩ _ [c.d] _ (ints_one b2 c.d) (by decide) (by simp) HRd.out (HPW.out.below (HB2.out.alloc HB2.out.size (.cells #[.int .i64 c.d] 3)) (Nat.le_refl _))).mono ?_; rintro e a3 ⟨rfl, hba⟩; have HX3 := Lib.hid ((HL2.out.below ((Below.refl _ _).alloc (Nat.le_refl _) (.cells #[.int .i64 c.d] 3))).below hba); have HY3 : Hid (Below w1.heap.size w1 a3) := (HB2.out.alloc HB2.out.size (.cells #[.int .i64 c.d] 3)).trans (hba.mono (by have := HB2.out.size; simp; omega)); clear hba)
          | (go_at_call 24; refine (write_any a2 w1.heap.size (srvT c.S ++ lineOf wQuorum [c.q]) _ HX2.out HSZ.out.2.1 HY2.out.size).mono ?_; rintro e b2 ⟨rfl, hwl, hwb⟩; have HL2 : Hid (Bld b2 w1.heap.size (srvT c.S ++ lineOf wQuorum [c.q] ++ lineOf wPoll [c.l, c.m])) := hwl; have HB2 : Hid (Below w1.heap.size w1 b2) := HY2.out.trans hwb; obtain ⟨_, k1, k2, k3, k4, k5⟩ := HCE.out b2 HB2.out; clear hwl hwb)
          | (go_at_call 25; refine (line_any ⟨#[112, 111, 108, 108]⟩ _ [c.l, c.m] _ (ints_two b1 c.l c.m) (by decide) (by simp) HRp.out (HPW.out.below (HB1.out.alloc HB1.out.size (.cells #[.int .i64 c.l, .int .i64 c.m] 3)) (Nat.le_refl _))).mono ?_; rintro e a2 ⟨rfl, hba⟩; have HX2 := Lib.hid ((HL1.out.below ((Below.refl _ _).alloc (Nat.le_refl _) (.cells #[.int .i64 c.l, .int .i64 c.m] 3))).below hba); have HY2 : Hid (Below w1.heap.size w1 a2) := (HB1.out.alloc HB1.out.size (.cells #[.int .i64 c.l, .int .i64 c.m] 3)).trans (hba.mono (by have := HB1.out.size; simp; omega)); clear hba)
          | (go_at_call 24; refine (write_any a1 w1.heap.size (srvT c.S) _ HX1.out HSZ.out.1 HY1.out.size).mono ?_; rintro e b1 ⟨rfl, hwl, hwb⟩; have HL1 : Hid (Bld b1 w1.heap.size (srvT c.S ++ lineOf wQuorum [c.q])) := hwl; have HB1 : Hid (Below w1.heap.size w1 b1) := HY1.out.trans hwb; obtain ⟨_, k1, k2, k3, k4, k5⟩ := HCE.out b1 HB1.out; clear hwl hwb)
          | (go_at_call 25; refine (line_any ⟨#[113, 117, 111, 114, 117, 109]⟩ _ [c.q] _ (ints_one wr c.q) (by decide) (by simp) HRq.out (HPW.out.below (HB0.out.alloc HB0.out.size (.cells #[.int .i64 c.q] 3)) (Nat.le_refl _))).mono ?_; rintro e a1 ⟨rfl, hba⟩; have HX1 := Lib.hid ((HL0.out.below ((Below.refl _ _).alloc (Nat.le_refl _) (.cells #[.int .i64 c.q] 3))).below hba); have HY1 : Hid (Below w1.heap.size w1 a1) := (HB0.out.alloc HB0.out.size (.cells #[.int .i64 c.q] 3)).trans (hba.mono (by have := HB0.out.size; simp; omega)); clear hba))
      go_ret2
      exact ⟨rfl, HW1.out.trans (HB5.out.mono (Nat.le_of_lt hlt1))⟩
end Go.Proofs.YtlbabhddjdhalaaDoor
