/- Text, the program's. -/
import Derived.Test.YtfhpckglckcdjaaDoorApps
import Derived.Deep.RegionHeld3
import Derived.Test.YtfhpckglckcdjaaDoorNm
import Derived.Test.YtfhpckglckcdjaaDoorLaid
import Derived.OwnWalk
import Derived.Deep.AppendLies
namespace Go.Proofs.YtfhpckglckcdjaaDoor
open Go.RowKit Go.Proofs.Lx

/-- The text of some numbers, as a string. -/
def txtS (N : List Nat) : ByteArray := ⟨(textN N).toArray⟩
theorem itoa_any (n : Nat) (w : World) (h : n ≤ 1000000000000) (ht : Pow w) : Calls Tryd.prog 20 #[.int .i64 n] w fun e w' => e = .returned (.string (decS n)) ∧ Below w.heap.size w w' := by
  have e : decS n = ⟨(Lib.itoa (n : Int)).toArray⟩ := by rw [Lib.itoa_nonneg]; rfl
  rw [e]
  refine (Tryd.strconv_Itoa (n : Int) (by omega) (by omega) w ht).mono ?_
  rintro e w' ⟨rfl, k, os, rfl⟩
  exact ⟨rfl, Lib.below_grow _ _ (Nat.le_refl _) _ _⟩
theorem join_any (v : Value) (ws : List Bs) (b : Nat) (w : World) (hv : Strs w b v ws) (h1 : ws.length ≤ 1000000) (h2 : (Lib.join ws SEP).length ≤ 1000000) :
    Calls Tryd.prog 21 #[v, .string ⟨#[44, 32]⟩] w fun e w' => e = .returned (.string ⟨(Lib.join ws SEP).toArray⟩) ∧ Below w.heap.size w w' := by
  by_cases h0 : 0 < ws.length
  · obtain ⟨g, c, rfl, hc, hg, hcell⟩ := hv.at_ h0
    have e : ((ws.map fun l => (⟨l.toArray⟩ : ByteArray)).map (·.data.toList)) = ws := by
      rw [List.map_map]
      conv => rhs; rw [← List.map_id ws]
      exact List.map_congr_left fun l _ => by simp
    have := Tryd.strings_Join g 0 c (ws.map fun l => ⟨l.toArray⟩) ⟨#[44, 32]⟩ w (fun j x hx => by
      rw [List.getElem?_map] at hx
      obtain ⟨l, hl, rfl⟩ := Option.map_eq_some_iff.1 hx
      rw [Nat.zero_add]
      exact hcell j l hl) hg (by simp; omega) (by simp; omega) (by rw [e]; exact Nat.le_trans h2 (by decide))
    rw [e, List.length_map] at this
    exact this
  · obtain rfl : ws = [] := List.eq_nil_of_length_eq_zero (by omega)
    obtain ⟨A, c, rfl, _⟩ := hv.len
    refine (Tryd.strings_Join_none A c ⟨#[44, 32]⟩ w).mono ?_
    rintro e w' ⟨rfl, rfl⟩
    exact ⟨rfl, Below.refl _ _⟩
theorem strs_snoc {w : World} {base : Nat} {v : Value} {acc : List Bs} {s : ByteArray} (h : w.ownsRow base 9 1 v (acc.length + 1) (acc.map Str ++ [.string s])) : Strs w base v (acc ++ [s.data.toList]) := by
  unfold Strs
  rw [List.length_append, List.map_append]
  exact h
theorem one_str (s : ByteArray) : ∀ u ∈ [Value.string s], u.oneCell' = true := fun u hu => by simp at hu; subst hu; rfl
/-- Behind an append of one string. -/
theorem app_after {w wr w1 : World} {B : Nat} {v v' : Value} {acc : List Bs} {s : ByteArray} {o : Obj} (hb : Below B w wr) (hB : B ≤ wr.heap.size) (h : wr.ownsRow B 9 1 v acc.length (acc.map Str))
    (h' : w1.ownsRow B 9 1 v' (acc.length + 1) (acc.map Str ++ [.string s])) (hg : (wr.alloc o).grownBy w1 v.ownBlock) : Strs w1 B v' (acc ++ [s.data.toList]) ∧ Below B w w1 :=
  ⟨strs_snoc h', Below.grown (hb.alloc hB _) hg (by simp; omega) (fun k hk => (h.lt k hk).1)⟩
theorem decS_size (n : Nat) (h : n ≤ 1000000000000) : (decS n).size ≤ 20 := by
  rw [← len_eq]
  have := Lib.nDigits_le20 n (by omega)
  simpa [decS, Lib.decDigits_length] using this
/-- A name, as a string. -/
def nameS (i : Nat) : ByteArray := ⟨(nameAt i).toArray⟩
theorem nameS_size (i : Nat) : (nameS i).size ≤ 7 := by
  rw [← len_eq]
  simpa [nameS] using nameAt_len i
theorem part_list (i n : Nat) : ((nameS i ++ ⟨#[32]⟩) ++ decS n).data.toList = prt i n := by
  simp [nameS, decS, prt]
theorem size_one : (⟨#[32]⟩ : ByteArray).size = 1 := rfl

set_option maxRecDepth 100000 in
set_option maxHeartbeats 4000000 in
theorem text_any (P : Option Addr) (N : List Nat) (w : World) (hN : Fit N) (h : Cs w P N) (ht : Pow w) : Calls Tryd.prog 12 #[.pointer P] w fun e w' => e = .returned (.string (txtS N)) ∧ Below w.heap.size w w' := by
  obtain ⟨i0, hi, hz0, hz1, hz2⟩ := info_parts info9
  have KA := Lib.hid (all_any P N (w.alloc (.cells nameCells 9)) hN.len (h.below (bel_alloc _ _)))
  have hX : ∀ i : Nat, i < 13 → ∀ w, (Instr.index 45 (.agg (cellsN N)) (.int .i64 (i : Int))).run Tryd.prog w = .ok (.int .i64 (N.getD i 0 : Nat)) w := fun i hi w => run_index_cells w 45 3 13 Tryd.underlying45 Tryd.underlying3 size3 N hN.len i hi .i64 _ rfl
  have HX := Lib.hid hX
  have HP := Lib.hid (show ∀ k, k < 13 → partsF 0 (N.take (k + 1)) = partsF 0 (N.take k) ++ (if N.getD k 0 = 0 then [] else [prt k (N.getD k 0)]) from fun k hk => parts_snoc N k (by rw [hN.len]; exact hk))
  have HL := Lib.hid (show ∀ k, (partsF 0 (N.take k)).length ≤ 13 from fun k => Nat.le_trans (partsF_len _ _) (by rw [List.length_take, hN.len]; omega))
  have HZ := Lib.hid hN
  have HT := Lib.hid ht
  obtain ⟨cs, hcs⟩ : ∃ cs, cs = cellsN N := ⟨_, rfl⟩
  rw [← hcs] at HX KA
  clear h hX hcs ht hN
  go_enter Tryd.func12, Tryd.ntmps12
  go_wp2_with fail
  refine (names_any _).mono ?_
  rintro e w1 ⟨rfl, hw1⟩
  rw [← hw1] at KA
  have HN1 := Lib.hid (show NamesAt w1 w.heap.size from by rw [hw1]; exact NamesAt.new w)
  have HB1 := Lib.hid (show Below w.heap.size w w1 from by rw [hw1]; exact bel_alloc _ _)
  have HS1 := Lib.hid (show w1.heap.size = w.heap.size + 1 from by rw [hw1]; simp)
  clear hw1
  go_wp2_with fail
  refine KA.out.mono ?_
  rintro e w2 ⟨rfl, hb2⟩
  have HB2 := Lib.hid hb2
  clear hb2 KA
  go_wp2
  go_loopw [4, 10] (fun v i wr => ∃ k : Nat, k ≤ 13 ∧ i = .int .i64 k ∧ Hid (Strs wr w1.heap.size v (partsF 0 (N.take k))) ∧ Below w1.heap.size w1 wr) (fun _ i _ => 13 - (intOf i).toNat)
  case atStart => exact ⟨0, by omega, rfl, Strs.nil _ _, HB2.out⟩
  case round =>
    obtain ⟨k, hk, rfl, HS, hb⟩ := hrel
    have hbs := hb.size
    by_cases hk13 : k < 13
    · have x1 := HX.out k hk13
      have hk1 : (k : Int) < 13 := by omega
      have hp := HP.out k hk13
      have hfit := HZ.out.at k
      obtain ⟨n, hn⟩ : ∃ n, n = N.getD k 0 := ⟨_, rfl⟩
      rw [← hn] at x1 hp hfit
      clear hn
      by_cases hn0 : n = 0
      · rw [if_pos hn0, List.append_nil] at hp
        subst hn0
        have x1 : ∀ w, (Instr.index 45 (.agg cs) (.int .i64 (k : Int))).run Tryd.prog w = .ok (.int .i64 0) w := x1
        have HP1 := Lib.hid hp
        clear hp
        go_wp2
        go_roundw
        case rel => exact ⟨k + 1, by omega, by go_num, by rw [HP1.out]; exact HS, hb⟩
        case measure => simp [intOf]; omega
      · rw [if_neg hn0] at hp
        have hd : ((n : Int) != 0) = true := by simp; omega
        have HP1 := Lib.hid hp
        have hown := HS.out
        unfold Strs at hown
        have HO := Lib.hid hown
        have hl := HL.out k
        have HKI := Lib.hid (fun W => itoa_any n W hfit)
        have hsn := nameS_size k
        have hsd := decS_size n hfit
        have hs1 := size_one
        have hnm := (HN1.out.below hb).cell k hk13
        have HPW := Lib.hid (HT.out.below (HB1.out.trans (hb.mono (by have := HS1.out; omega))) (Nat.le_refl _))
        have HPL := Lib.hid (part_list k n)
        have hnm : wr.cell? ⟨w.heap.size, k, none⟩ = some (.string (nameS k)) := hnm
        obtain ⟨ns, hns⟩ : ∃ ns, ns = nameS k := ⟨_, rfl⟩
        obtain ⟨ds, hds⟩ : ∃ ds, ds = decS n := ⟨_, rfl⟩
        rw [← hns] at hnm hsn HPL
        rw [← hds] at hsd HKI HPL
        have HNS := Lib.hid hns
        clear hp hown HS hns hds
        go_wp2_with fail
        have KI := Lib.hid (HKI.out wr.drew HPW.out)
        have PF := Lib.hid (fun W (hW : Below w1.heap.size w1 W) => (show W.cell? ⟨w.heap.size, k, none⟩ = some (.string ns) from by have := (HN1.out.below hW).cell k hk13; rw [HNS.out]; exact this))
        have HSO := Lib.hid (fun W : World => (show SAt (W.alloc (.cells #[.string ((ns ++ ⟨#[32]⟩) ++ ds)] 9)) W.heap.size 0 [prt k n] from by rw [str_eq, HPL.out]; exact SAt.one W _))
        have HBd := Lib.hid (show Below w1.heap.size w1 wr.drew from hb.drew)
        have HOd := Lib.hid (show Strs wr.drew w1.heap.size u4 (partsF 0 (N.take k)) from HO.out)
        obtain ⟨acc, hacc⟩ : ∃ acc, acc = partsF 0 (N.take k) := ⟨_, rfl⟩
        rw [← hacc] at HOd hl HP1
        have HAC := Lib.hid hacc
        clear HO hacc HKI HPW HPL
        have hq : ¬ (9223372036854775807 < ns.size + 1) := by omega
        go_region_held3 (fun w' => w'.cell? ⟨w.heap.size, k, none⟩ = some (.string ns))
          (first | with_reducible exact PF.out _ HBd.out | with_reducible exact PF.out _ M1.out | with_reducible exact PF.out _ (M1.out.alloc M1.out.size _) | with_reducible exact PF.out _ M2.out)
          (first
            | (go_at_call 20; refine KI.out.mono ?_; rintro e z1 ⟨rfl, h1⟩; have M1 := Lib.hid (HBd.out.trans (h1.mono HBd.out.size)); have O1 := Lib.hid (Strs.below HOd.out h1 (Nat.le_refl _)); have q2 : ¬ (9223372036854775807 < ns.size + 1 + ds.size) := (by omega); clear h1)
            | (refine step_append_strs rfl (.tmp 16) (.tmp 25) rfl w1.heap.size u4 acc.length 1 acc [prt k n] (by go_simp) rfl (Strs.below O1.out (bel_alloc _ _) (Nat.le_refl _)) _ 0 1 (by go_simp) rfl (HSO.out _) (by omega) ((M1.out.alloc M1.out.size _).size) ?_; intro A cap w4 hst hb4 hsat; have M2 := Lib.hid ((M1.out.alloc M1.out.size (.cells #[.string ((ns ++ ⟨#[32]⟩) ++ ds)] 9)).trans hb4); have O2 := Lib.hid hst; clear hst hb4 hsat))
        go_wp2
        go_roundw
        case rel => exact ⟨k + 1, by omega, by go_num, by rw [HP1.out]; exact O2, M2.out⟩
        case measure => simp [intOf]; omega
    · obtain rfl : k = 13 := by omega
      have hl := HL.out 13
      have hz : (Lib.join (partsF 0 (N.take 13)) SEP).length ≤ 1000000 := Nat.le_trans (HZ.out.size 13) (by omega)
      have K := Lib.hid (join_any u4 _ _ wr HS.out (by omega) hz)
      have HE := Lib.hid (textT_all N HZ.out.len)
      clear hz hl
      go_wp2_with fail
      refine K.out.mono ?_
      rintro e w3 ⟨rfl, hb3⟩
      go_wp2
      go_ret
      exact ⟨by unfold txtS; rw [← HE.out]; rfl, HB1.out.trans ((bel_trans hb hb3).mono (by have := HS1.out; omega))⟩
end Go.Proofs.YtfhpckglckcdjaaDoor
