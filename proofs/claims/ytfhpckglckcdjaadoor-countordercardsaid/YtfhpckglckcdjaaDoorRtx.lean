/- Text, the document's. -/
import Derived.Test.YtfhpckglckcdjaaDoorTx
import Derived.Deep.RegionWith
namespace Go.Proofs.YtfhpckglckcdjaaDoor
open Go.RowKit Go.Proofs.Lx

theorem rnames_ex (w : World) : Calls Tryd.prog 15 #[] w fun e w' => ∃ g, e = .returned (.slice (some ⟨g, 0, none⟩) 13 13) ∧ NamesAt w' g ∧ Below w.heap.size w w' := by
  refine (rnames_any w).mono ?_
  rintro e w' ⟨rfl, rfl⟩
  exact ⟨_, rfl, NamesAt.new w, bel_alloc _ _⟩
theorem part_list3 (s : ByteArray) (i n : Nat) : (((s ++ nameS i) ++ ⟨#[32]⟩) ++ decS n).data.toList = s.data.toList ++ prt i n := by
  simp [nameS, decS, prt]
theorem sep_list (s : ByteArray) : (s ++ ⟨#[44, 32]⟩).data.toList = s.data.toList ++ SEP := by simp [SEP]
theorem sep_size : (⟨#[44, 32]⟩ : ByteArray).size = 2 := rfl
theorem bytes_ext {s t : ByteArray} (h : s.data.toList = t.data.toList) : s = t := by
  cases s; cases t; simp at h; simpa using h

set_option maxRecDepth 100000 in
set_option maxHeartbeats 4000000 in
theorem rtext_any (N : List Nat) (w : World) (hN : Fit N) : Calls Tryd.prog 13 #[.agg (cellsN N)] w fun e w' => e = .returned (.string (txtS N)) ∧ Below w.heap.size w w' := by
  have HZ := Lib.hid hN
  obtain ⟨cs, hcs⟩ : ∃ cs, cs = cellsN N := ⟨_, rfl⟩
  have HR0 := Lib.hid (show Row13 26 (w.alloc (.cells cs 26)) w.heap.size N by rw [hcs]; exact heap_alloc_new w _)
  have HS0 := Lib.hid (show (w.alloc (.cells cs 26)).heap.size = w.heap.size + 1 by simp)
  rw [← hcs]
  clear hN hcs
  go_enter Tryd.func13, Tryd.ntmps13
  go_wp2
  obtain ⟨w0, hw0⟩ : ∃ w0, w0 = w.alloc (.cells cs 26) := ⟨_, rfl⟩
  rw [← hw0] at HR0 HS0 ⊢
  have HB0 := Lib.hid (show Below w.heap.size w w0 by rw [hw0]; exact bel_alloc _ _)
  clear hw0
  go_loopw [3, 4] (fun b i wr => ∃ (k : Nat) (s : ByteArray), k ≤ 13 ∧ i = .int .i64 k ∧ b = .string s ∧ Hid (s.data.toList = textT N k) ∧ Below w0.heap.size w0 wr) (fun _ i _ => 13 - (intOf i).toNat)
  case atStart => exact ⟨0, ⟨#[]⟩, by omega, rfl, rfl, rfl, Below.refl _ _⟩
  case round =>
    obtain ⟨k, s, hk, rfl, rfl, HS, hb⟩ := hrel
    have hbs := hb.size
    by_cases hk13 : k < 13
    · have hkl : k < N.length := by have := HZ.out.len; omega
      have hk1 : (k : Int) < 13 := by omega
      have c0 := (HR0.out.below hb).cell k hkl
      have hfit := HZ.out.at k
      have hsz : s.size ≤ 400 := by rw [← len_eq, HS.out]; exact HZ.out.size k
      have HV := Lib.hid (And.intro (textT_same N k hkl) (And.intro (textT_first N k hkl) (textT_more N k hkl)))
      have HPL := Lib.hid (fun t : ByteArray => part_list3 t k (N.getD k 0))
      have HKD := Lib.hid (fun W => rdec_any (N.getD k 0) W hfit)
      have hsd := decS_size (N.getD k 0) hfit
      obtain ⟨ds, hds⟩ : ∃ ds, ds = decS (N.getD k 0) := ⟨_, rfl⟩
      rw [← hds] at HPL hsd HKD
      clear hds
      have HC := Lib.hid (fun W (hW : Below w0.heap.size w0 W) => (HR0.out.below hW).cell k hkl)
      obtain ⟨n, hn⟩ : ∃ n, n = N.getD k 0 := ⟨_, rfl⟩
      rw [← hn] at c0 HV HPL HC hfit HKD
      by_cases hn0 : n = 0
      · have HS1 := Lib.hid (HS.out.trans (HV.out.1 hn0).symm)
        clear HS HV hn
        subst hn0
        have c0 : wr.cell? ⟨w.heap.size, k, none⟩ = some (.int .i64 0) := c0
        go_wp2
        go_roundw
        case rel => exact ⟨k + 1, s, by omega, by go_num, rfl, HS1, hb⟩
        case measure => simp [intOf]; omega
      · have hd : ((n : Int) == 0) = false := by simp; omega
        have hs1 := size_one
        have hs2 := sep_size
        have hsn := nameS_size k
        have HNM := Lib.hid (fun W g (h : NamesAt W g) => (show W.cell? ⟨g, k, none⟩ = some (.string (nameS k)) from h.cell k hk13))
        obtain ⟨ns, hns⟩ : ∃ ns, ns = nameS k := ⟨_, rfl⟩
        rw [← hns] at HNM hsn HPL
        clear hns hn
        have HBd := Lib.hid (show Below w0.heap.size w0 wr.drew from hb.drew)
        by_cases he : s.data.toList = []
        · have hE : s.toList.isEmpty = true := by rw [ByteArray.toList_eq, he]; rfl
          have HF := Lib.hid (show textT N (k + 1) = s.data.toList ++ prt k n by rw [HV.out.2.1 hn0 (by rw [← HS.out, he]), he]; rfl)
          go_wp2_with fail
          clear he HV HS c0
          have q1 : ¬ (9223372036854775807 < s.size + ns.size) := by omega
          have q2 : ¬ (9223372036854775807 < s.size + ns.size + 1) := by omega
          have q3 : ¬ (9223372036854775807 < s.size + ns.size + 1 + ds.size) := by omega
          have cd := HC.out _ HBd.out
          go_region_with
            (first
              | (go_at_call 15; refine (rnames_ex _).mono ?_; rintro e z1 ⟨g, rfl, hg, h1⟩; have M1 := Lib.hid (HBd.out.trans (h1.mono HBd.out.size)); have NA := Lib.hid hg; have n1 := HNM.out _ _ hg; have c1 := HC.out _ M1.out; clear h1 hg)
              | (go_at_call 16; refine (HKD.out _).mono ?_; rintro e z2 ⟨rfl, h2⟩; have M2 := Lib.hid (M1.out.trans (h2.mono M1.out.size)); have n2 := HNM.out _ _ (NA.out.below h2); have c2 := HC.out _ M2.out; clear h2))
          all_goals (
            go_wp2
            go_roundw
            case rel => exact ⟨k + 1, _, by omega, by go_num, rfl, (HPL.out _).trans HF.out.symm, M2.out⟩
            case measure => simp [intOf]; omega)
        · have hE : s.toList.isEmpty = false := by rw [ByteArray.toList_eq]; simpa using he
          have HF := Lib.hid (show textT N (k + 1) = (s ++ ⟨#[44, 32]⟩).data.toList ++ prt k n by rw [HV.out.2.2 hn0 (by rw [← HS.out]; exact he), sep_list, HS.out])
          go_wp2_with fail
          clear he HV HS c0
          have q1 : ¬ (9223372036854775807 < s.size + 2 + ns.size) := by omega
          have q2 : ¬ (9223372036854775807 < s.size + 2 + ns.size + 1) := by omega
          have q3 : ¬ (9223372036854775807 < s.size + 2 + ns.size + 1 + ds.size) := by omega
          have cd := HC.out _ HBd.out
          go_region_with
            (first
              | (go_at_call 15; refine (rnames_ex _).mono ?_; rintro e z1 ⟨g, rfl, hg, h1⟩; have M1 := Lib.hid (HBd.out.trans (h1.mono HBd.out.size)); have NA := Lib.hid hg; have n1 := HNM.out _ _ hg; have c1 := HC.out _ M1.out; clear h1 hg)
              | (go_at_call 16; refine (HKD.out _).mono ?_; rintro e z2 ⟨rfl, h2⟩; have M2 := Lib.hid (M1.out.trans (h2.mono M1.out.size)); have n2 := HNM.out _ _ (NA.out.below h2); have c2 := HC.out _ M2.out; clear h2))
          all_goals (
            go_wp2
            go_roundw
            case rel => exact ⟨k + 1, _, by omega, by go_num, rfl, (HPL.out _).trans HF.out.symm, M2.out⟩
            case measure => simp [intOf]; omega)
    · obtain rfl : k = 13 := by omega
      have HE := Lib.hid (HS.out.trans (textT_all N HZ.out.len))
      go_wp2
      go_ret
      exact ⟨by rw [show s = txtS N from bytes_ext (by rw [HE.out]; simp [txtS])]; rfl, HB0.out.trans (hb.mono (by have := HS0.out; omega))⟩
end Go.Proofs.YtfhpckglckcdjaaDoor
