/- ConfFirst's walk. -/
import Derived.Test.YtlbabhddjdhalaaDoorLaws0
import Derived.Test.YtlbabhddjdhalaaDoorJoin
namespace Go.Proofs.YtlbabhddjdhalaaDoor
open Go.RowKit Go.Proofs.Lx

def fiveS : Array Value := #[.string ⟨#[119, 104, 97, 116, 32, 55]⟩, .string ⟨#[113, 117, 111, 114, 117, 109, 32, 49]⟩, .string ⟨#[115, 101, 114, 118, 101, 114]⟩, .string ⟨#[115, 108, 101, 119, 32, 49, 32, 50]⟩, .string ⟨#[100, 101, 108, 97, 121, 32, 120]⟩]
theorem five_at {w : World} {g : Nat} (h : w.heap[g]? = some (.cells fiveS 9 (0, 0))) (k : Nat) (hk : k < 5) : ∃ p : ByteArray, w.cell? ⟨g, k, none⟩ = some (.string p) ∧ p.data.toList ∈ fiveB ∧ p.size ≤ 20 := by
  match k, hk with
  | 0, _ => exact ⟨_, Lib.cell_of_heap h 0, by decide, by decide⟩
  | 1, _ => exact ⟨_, Lib.cell_of_heap h 1, by decide, by decide⟩
  | 2, _ => exact ⟨_, Lib.cell_of_heap h 2, by decide, by decide⟩
  | 3, _ => exact ⟨_, Lib.cell_of_heap h 3, by decide, by decide⟩
  | 4, _ => exact ⟨_, Lib.cell_of_heap h 4, by decide, by decide⟩
set_option maxRecDepth 100000 in
set_option maxHeartbeats 4000000 in
theorem walk_confFirst (v0 : Value) (s1 : ByteArray) (w : World) (w0 : CfgIn w v0) (w1 : s1.size ≤ maxLen) (hm : Mx w) (ht : Pow w) :
    Calls Tryd.prog 7 #[v0, .string s1] w fun e w' => e = .returned (.bool true) ∧ Below w.heap.size w w' := by
  obtain ⟨u0, a, rfl, I0, s0, q0, l0, m0, d0, z0, n0⟩ := w0
  have R0 : CfgR a := ⟨s0, q0, l0, m0, d0, z0⟩
  obtain ⟨A, ca, rfl, hca⟩ := I0.len
  clear s0 q0 l0 m0 d0 z0
  obtain ⟨W, hW⟩ : ∃ W, W = w.alloc (.cells #[.slice A a.S.length ca, .int .i64 a.q, .int .i64 a.l, .int .i64 a.m, .int .i64 a.d, .int .i64 a.s] 24) := ⟨_, rfl⟩
  have hbW : Below w.heap.size w W := by rw [hW]; exact below_alloc _ _
  have B0 : Box W w.heap.size (.slice A a.S.length ca) a := by rw [hW]; exact Box.new _ _ _
  have GO : ∀ u, Below W.heap.size W u → Below w.heap.size w u := fun u hu => hbW.trans (hu.mono hbW.size)
  have HGO := Lib.hid GO
  have HA : Hid (∀ u, Below W.heap.size W u → Box u w.heap.size (.slice A a.S.length ca) a) := fun u hu => B0.below hu B0.lt
  have KL : Hid (∀ u, Below W.heap.size W u → Calls Tryd.prog 10 #[] u fun e w' => e = .returned (.bool true) ∧ Below W.heap.size W w') := fun u hu =>
    (alive_any u (hm.below (GO u hu) (Nat.le_refl _))).mono fun e w' h => ⟨h.1, hu.trans (h.2.mono hu.size)⟩
  have KA : Hid (∀ u, Below W.heap.size W u → Calls Tryd.prog 11 #[cval (.slice A a.S.length ca) a] u fun e w' => e = .returned (.tuple #[.string (textZ a), .int .i64 (checkOf a : Nat)]) ∧ Below W.heap.size W w') := fun u hu =>
    (print_any _ a u (I0.below (GO u hu) (Nat.le_refl _)) R0 (ht.below (GO u hu) (Nat.le_refl _))).mono fun e w' h => ⟨h.1, hu.trans (h.2.mono hu.size)⟩
  have KC : Hid (∀ u, checkOf a = 0 → Calls Tryd.prog 23 #[.string (textZ a), .string ⟨#[10]⟩] u fun e w' => e = .returned (.int .i64 ((a.S.length + 4 : Nat) : Int)) ∧ w' = u) := fun u h0 => by
    have := Tryd.strings_Count_one (textZ a) 10 u
    rw [textZ_list, textC_ok h0, show Lib.countByte (printOf a) 10 = (printOf a).count 10 from rfl, print_count] at this
    exact this
  have KF : Hid (∀ u (p : ByteArray), Below W.heap.size W u → checkOf a = 0 → p.data.toList ∈ fiveB → p.size ≤ 20 → Calls Tryd.prog 17 #[.string (textZ a ++ p)] u fun e w' => ∃ E ce, ∃ k : Nat, e = .returned (.tuple #[.agg #[.slice E 0 ce, .int .i64 0, .int .i64 0, .int .i64 0, .int .i64 0, .int .i64 0], .int .i64 ((a.S.length + 5 : Nat) : Int), .int .i64 (k : Nat)]) ∧ k ≠ 0 ∧ Below W.heap.size W w' ∧ Below u.heap.size u w') := fun u p hu h0 hp hs => by
    refine (parse_any (textZ a ++ p) u (by rw [ByteArray.size_append]; have := textZ_size a; omega) (hm.below (GO u hu) (Nat.le_refl _))).mono ?_
    rintro e w' ⟨v, h1, h2, h3⟩
    obtain ⟨k, hk, he⟩ := five_bad h0 _ hp
    rw [str_app, textZ_list, textC_ok h0, he] at h1 h2
    obtain ⟨E, ce, rfl, _⟩ := h2.ints.len
    exact ⟨E, ce, k, h1, hk, hu.trans (h3.mono hu.size), h3⟩
  obtain ⟨b, hb⟩ : ∃ b, b = (parseOf (textC a ++ s1.data.toList)).1 := ⟨_, rfl⟩
  obtain ⟨nn, hnn⟩ : ∃ n, n = (parseOf (textC a ++ s1.data.toList)).2.1 := ⟨_, rfl⟩
  obtain ⟨y, hy⟩ : ∃ y, y = (parseOf (textC a ++ s1.data.toList)).2.2 := ⟨_, rfl⟩
  have HCS : Hid (checkOf a = 0 → (10 : UInt8) ∉ s1.data.toList → s1.size ≤ 100 → y = 0 ∨ nn = a.S.length + 5 ∨ nn = 0) := fun h0 h10 hs => by
    rw [hy, hnn, textC_ok h0]
    exact behind_any h0 h10 (by rw [len_eq]; omega)
  have KT : Hid (∀ u, Below W.heap.size W u → s1.size ≤ 100 → Calls Tryd.prog 17 #[.string (textZ a ++ s1)] u fun e w' => ∃ D cd, e = .returned (.tuple #[cval (.slice D b.S.length cd) b, .int .i64 (nn : Nat), .int .i64 (y : Nat)]) ∧ Below W.heap.size W w') := fun u hu h5 => by
    refine (parse_any (textZ a ++ s1) u (by rw [ByteArray.size_append]; have := textZ_size a; omega) (hm.below (GO u hu) (Nat.le_refl _))).mono ?_
    rintro e w' ⟨v, h1, h2, h3⟩
    rw [str_app, textZ_list, ← hb] at h1 h2
    obtain ⟨D, cd, rfl, _⟩ := h2.ints.len
    rw [← hnn, ← hy] at h1
    exact ⟨D, cd, h1, hu.trans (h3.mono hu.size)⟩
  clear hb hnn hy
  have h2000 := textZ_size a
  have H16 := Lib.hid (fun (h0 : checkOf a = 0) => (check_small h0).1)
  have K22 := Lib.hid (cont_any s1)
  have HWW : Hid (Below W.heap.size W W) := Below.refl _ _
  unfold cval at KA KT ⊢
  obtain ⟨N, hN⟩ : ∃ N, N = a.S.length := ⟨_, rfl⟩
  obtain ⟨M, hM⟩ : ∃ M, M = b.S.length := ⟨_, rfl⟩
  obtain ⟨x, hx⟩ : ∃ x, x = checkOf a := ⟨_, rfl⟩
  obtain ⟨ta, hta⟩ : ∃ t, t = textZ a := ⟨_, rfl⟩
  obtain ⟨t10, ht10⟩ : ∃ t, t = decide ((10 : UInt8) ∈ s1.data.toList) := ⟨_, rfl⟩
  have HT10 : Hid (t10 = false → (10 : UInt8) ∉ s1.data.toList) := fun h => by rw [ht10] at h; simpa using h
  rw [← ht10] at K22
  rw [← hM] at KT
  rw [← hN] at HA KA n0 hca hW KC KF HCS H16 ⊢
  rw [← hx, ← hta] at KA KC KF
  rw [← hta] at KT h2000
  rw [← hx] at HCS H16
  clear GO hbW B0 I0 R0 hm ht hN hx hta hM ht10
  unfold maxLen at n0 w1
  go_enter Tryd.func7, Tryd.ntmps7
  go_wp2_with fail
  rw [← hW]
  refine (KA.out W HWW.out).mono ?_
  rintro e w1 ⟨rfl, hb1⟩
  obtain ⟨r0, r1, r2, r3, r4, r5⟩ := (HA.out w1 hb1).cells
  by_cases c1 : (50 : Int) < (N : Int)
  · go_wp2_with fail
    refine (KL.out w1 hb1).mono ?_
    rintro e w2 ⟨rfl, hb2⟩
    go_wp2
    go_ret
    exact ⟨rfl, HGO.out _ hb2⟩
  by_cases c2 : (100 : Int) < (s1.size : Int)
  · go_wp2_with fail
    refine (KL.out w1 hb1).mono ?_
    rintro e w2 ⟨rfl, hb2⟩
    go_wp2
    go_ret
    exact ⟨rfl, HGO.out _ hb2⟩
  by_cases hx0 : x = 0
  case neg =>
    have t1 : ((x : Int) != 0) = true := by simp; omega
    go_wp2_with fail
    refine (KL.out w1 hb1).mono ?_
    rintro e w2 ⟨rfl, hb2⟩
    go_wp2
    go_ret
    exact ⟨rfl, HGO.out _ hb2⟩
  case pos =>
    subst hx0
    have h16 := H16.out rfl
    have KG := Lib.hid (fun u p hu hp hs => KF.out u p hu rfl hp hs)
    have KD := Lib.hid (fun u => KC.out u rfl)
    have KU := Lib.hid (fun u hu => KT.out u hu (by omega))
    have HCT := Lib.hid (fun hn => HCS.out rfl hn (by omega))
    clear KF KC KT HCS H16
    obtain ⟨L, hL⟩ : ∃ L, L = N + 4 := ⟨_, rfl⟩
    rw [show N + 5 = L + 1 by omega] at KG HCT
    rw [← hL] at KD
    have hL2 : L ≤ 20 := by omega
    clear hL
    go_wp2_with fail
    refine (K22.out w1).mono ?_
    rintro e w1' ⟨rfl, rfl⟩
    cases t10 with
    | true =>
      go_wp2_with fail
      refine (KL.out w1 hb1).mono ?_
      rintro e w2 ⟨rfl, hb2⟩
      go_wp2
      go_ret
      exact ⟨rfl, HGO.out _ hb2⟩
    | false =>
      have hcase := HCT.out (HT10.out rfl)
      clear HCT HT10
      go_wp2_with fail
      refine (KD.out w1).mono ?_
      rintro e w1' ⟨rfl, rfl⟩
      obtain ⟨V, hV⟩ : ∃ V, V = w1'.alloc (.cells #[.string ⟨#[119, 104, 97, 116, 32, 55]⟩, .string ⟨#[113, 117, 111, 114, 117, 109, 32, 49]⟩, .string ⟨#[115, 101, 114, 118, 101, 114]⟩, .string ⟨#[115, 108, 101, 119, 32, 49, 32, 50]⟩, .string ⟨#[100, 101, 108, 97, 121, 32, 120]⟩] 9) := ⟨_, rfl⟩
      have HVB : Hid (Below W.heap.size W V) := by show Below _ _ _; rw [hV]; exact hb1.alloc hb1.size _
      have HVX : Hid (V.heap[w1'.heap.size]? = some (.cells fiveS 9 (0, 0))) := by show _ = _; rw [hV]; exact heap_alloc_new _ _
      go_wp2_with fail
      rw [← hV]
      have HVL : Hid (w1'.heap.size < V.heap.size) := (Array.getElem?_eq_some_iff.1 HVX.out).1
      obtain ⟨g5, hg5⟩ : ∃ g, g = w1'.heap.size := ⟨_, rfl⟩
      rw [← hg5] at HVX HVL ⊢
      clear hV hg5 r0 r1 r2 r3 r4 r5
      go_loopw [43] (fun i wr => ∃ k : Nat, k ≤ 5 ∧ i = .int .i64 k ∧ Hid (Below V.heap.size V wr) ∧ Hid (Below W.heap.size W wr)) (fun i _ => 5 - (intOf i).toNat)
      case atStart => exact ⟨0, by omega, rfl, Below.refl _ _, HVB.out⟩
      case round =>
        obtain ⟨k, hk, rfl, HV, HWr⟩ := hrel
        by_cases hk5 : k < 5
        · obtain ⟨p, hcell, hp5, hps⟩ := five_at ((HV.out.block _ HVL.out).trans HVX.out) k hk5
          have HP := Lib.hid hp5
          have K5 := Lib.hid (fun u hu => KG.out u p hu HP.out hps)
          clear hp5 HP KG
          go_wp2_with fail
          refine (K5.out wr HWr.out).mono ?_
          rintro e w3 ⟨E, ce, kk, rfl, hkk, hb3, gb3⟩
          have t4 : ((kk : Int) == 0) = false := by simp; omega
          have t5 : (((L + 1 : Nat) : Int) != (L : Int) + 1) = false := by simp
          have HV3 := Lib.hid (HV.out.trans (gb3.mono HV.out.size))
          clear gb3
          go_wp2
          go_roundw
          case rel => exact ⟨k + 1, by omega, by go_num, HV3.out.alloc HV3.out.size _, hb3.alloc hb3.size _⟩
          case measure => simp [intOf]; omega
        · obtain rfl : k = 5 := by omega
          go_wp2_with fail
          refine (KU.out wr HWr.out).mono ?_
          rintro e w3 ⟨E, ce, rfl, hb3⟩
          obtain ⟨X, hX⟩ : ∃ X, X = w3.alloc (.cells #[.slice E M ce, .int .i64 b.q, .int .i64 b.l, .int .i64 b.m, .int .i64 b.d, .int .i64 b.s] 24) := ⟨_, rfl⟩
          have HXB : Hid (Below W.heap.size W X) := by show Below _ _ _; rw [hX]; exact hb3.alloc hb3.size _
          go_wp2_with fail
          rw [← hX]
          refine (KL.out X HXB.out).mono ?_
          rintro e w4 ⟨rfl, hb4⟩
          by_cases hy0 : y = 0
          · subst hy0
            go_wp2
            go_ret
            exact ⟨rfl, HGO.out _ hb4⟩
          · have t6 : ((y : Int) == 0) = false := by simp; omega
            rcases hcase with h | h | h
            · exact absurd h hy0
            · subst h
              have t5 : (((L + 1 : Nat) : Int) == (L : Int) + 1) = true := by simp
              go_wp2
              go_ret
              exact ⟨rfl, HGO.out _ hb4⟩
            · subst h
              have t5 : ((0 : Int) == (L : Int) + 1) = false := by simp; omega
              go_wp2
              go_ret
              exact ⟨rfl, HGO.out _ hb4⟩
end Go.Proofs.YtlbabhddjdhalaaDoor
