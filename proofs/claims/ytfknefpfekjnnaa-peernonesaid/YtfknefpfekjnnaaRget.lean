/- The document's call that reads a packet of bytes. -/
import Derived.Test.YtfknefpfekjnnaaGet
import Derived.Deep.RegionHeld3
import Derived.Deep.DeepCutAuto
namespace Go.Proofs.Ytfknefpfekjnnaa
open Go.RowKit

theorem cells_two (w : World) (a b : Obj) : ∀ p : Addr, p.block < w.heap.size → (((w.alloc a).alloc b).drew).cell? p = w.cell? p := by
  intro p hp
  show ((w.alloc a).alloc b).cell? p = _
  rw [World.cell?_alloc_lt _ _ _ (by simp; omega), World.cell?_alloc_lt _ _ _ hp]

set_option linter.unusedVariables false in
set_option maxRecDepth 100000 in
set_option maxHeartbeats 4000000 in
theorem rget_core (g o len cap : Nat) (z0 z1 z2 z3 d4 d8 d12 d16 d24 d32 d40 : Int) (w : World) (h48 : 48 ≤ len) (hlc : len ≤ cap) (hcm : cap ≤ maxLen)
    (b0 : 0 ≤ z0) (b1 : z0 ≤ 255) (b2 : 0 ≤ z1) (b3 : z1 ≤ 255) (b4 : 0 ≤ z2) (b5 : z2 ≤ 255) (b6 : 0 ≤ z3) (b7 : z3 ≤ 255)
    (e4 : 0 ≤ d4) (f4 : d4 ≤ 4294967295) (e8 : 0 ≤ d8) (f8 : d8 ≤ 4294967295) (e12 : 0 ≤ d12) (f12 : d12 ≤ 4294967295)
    (hg : g < w.heap.size)
    (c0 : w.cell? ⟨g, o, none⟩ = some (.int .u8 z0)) (c1 : w.cell? ⟨g, o + 1, none⟩ = some (.int .u8 z1)) (c2 : w.cell? ⟨g, o + 2, none⟩ = some (.int .u8 z2)) (c3 : w.cell? ⟨g, o + 3, none⟩ = some (.int .u8 z3))
    (R : ∀ W : World, (∀ p : Addr, p.block < w.heap.size → W.cell? p = w.cell? p) →
      (∀ c, Calls Try.prog 76 #[.slice (some ⟨g, o + 4, none⟩) 4 c] W fun e w' => e = .returned (.int .u64 d4) ∧ W = w') ∧
      (∀ c, Calls Try.prog 76 #[.slice (some ⟨g, o + 8, none⟩) 4 c] W fun e w' => e = .returned (.int .u64 d8) ∧ W = w') ∧
      (∀ c, Calls Try.prog 76 #[.slice (some ⟨g, o + 12, none⟩) 4 c] W fun e w' => e = .returned (.int .u64 d12) ∧ W = w') ∧
      (∀ c, Calls Try.prog 76 #[.slice (some ⟨g, o + 16, none⟩) 8 c] W fun e w' => e = .returned (.int .u64 d16) ∧ W = w') ∧
      (∀ c, Calls Try.prog 76 #[.slice (some ⟨g, o + 24, none⟩) 8 c] W fun e w' => e = .returned (.int .u64 d24) ∧ W = w') ∧
      (∀ c, Calls Try.prog 76 #[.slice (some ⟨g, o + 32, none⟩) 8 c] W fun e w' => e = .returned (.int .u64 d32) ∧ W = w') ∧
      (∀ c, Calls Try.prog 76 #[.slice (some ⟨g, o + 40, none⟩) 8 c] W fun e w' => e = .returned (.int .u64 d40) ∧ W = w')) :
    Calls Try.prog 64 #[.slice (some ⟨g, o, none⟩) len cap] w fun e w' =>
      e = .returned (.tuple #[.agg #[.int .u8 (z0 / 64), .int .u8 (z0 / 8 % 8), .int .u8 (z0 % 8), .int .u8 z1, .int .i8 (IntKind.i8.wrap z2), .int .i8 (IntKind.i8.wrap z3), .int .u32 d4, .int .u32 d8, .int .u32 d12, .int .u64 d16, .int .u64 d24, .int .u64 d32, .int .u64 d40], .int .i64 0]) ∧ Below w.heap.size w w' := by
  have HR := Lib.hid R
  clear R
  unfold maxLen at hcm
  have q0 : (48 : Int) ≤ (len : Int) := by omega
  have q1 : (len : Int) ≤ (cap : Int) := by omega
  have j0 : 0 < len := by omega
  have j1 : (1 : Int) < (len : Int) := by omega
  have j2 : (2 : Int) < (len : Int) := by omega
  have j3 : (3 : Int) < (len : Int) := by omega
  have k8 : (8 : Int) ≤ (cap : Int) := by omega
  have k12 : (12 : Int) ≤ (cap : Int) := by omega
  have k16 : (16 : Int) ≤ (cap : Int) := by omega
  have k24 : (24 : Int) ≤ (cap : Int) := by omega
  have k32 : (32 : Int) ≤ (cap : Int) := by omega
  have k40 : (40 : Int) ≤ (cap : Int) := by omega
  have k48 : (48 : Int) ≤ (cap : Int) := by omega
  have n4 : ¬ cap = 4 := by omega
  have n8 : ¬ cap = 8 := by omega
  have n12 : ¬ cap = 12 := by omega
  have n16 : ¬ cap = 16 := by omega
  have n24 : ¬ cap = 24 := by omega
  have n32 : ¬ cap = 32 := by omega
  have n40 : ¬ cap = 40 := by omega
  have u4 : IntKind.u32.wrap d4 = d4 := by simp only [IntKind.wrap_u32]; omega
  have u8 : IntKind.u32.wrap d8 = d8 := by simp only [IntKind.wrap_u32]; omega
  have u12 : IntKind.u32.wrap d12 = d12 := by simp only [IntKind.wrap_u32]; omega
  go_enter Try.func64, Try.ntmps64
  have D := Lib.hid (show IntKind.u8.wrap (z0.tdiv 64) = z0 / 64 ∧ (IntKind.u8.wrap (z0.tdiv 8)).tmod 8 = z0 / 8 % 8 ∧ z0.tmod 8 = z0 % 8 by
    have x1 : z0.tdiv 64 = z0 / 64 := Int.tdiv_eq_ediv_of_nonneg b0
    have x2 : z0.tdiv 8 = z0 / 8 := Int.tdiv_eq_ediv_of_nonneg b0
    rw [x1, x2, IntKind.wrap_u8, IntKind.wrap_u8, Int.tmod_eq_emod_of_nonneg (by omega), Int.tmod_eq_emod_of_nonneg b0]
    omega)
  have e0 := World.new_ne w ⟨g, o, none⟩ c0
  have e1 := World.new_ne w ⟨g, o + 1, none⟩ c1
  have e2 := World.new_ne w ⟨g, o + 2, none⟩ c2
  have e3 := World.new_ne w ⟨g, o + 3, none⟩ c3
  go_upto_region 3 with fail
  go_cut [4] (fun s4 wc => s4 = .pointer (some ⟨w.heap.size + 1, 0, none⟩) ∧ wc = ((w.alloc (.cells #[.int .u8 0, .int .u8 0, .int .u8 0, .int .u8 0, .int .i8 0, .int .i8 0, .int .u32 0, .int .u32 0, .int .u32 0, .int .u64 0, .int .u64 0, .int .u64 0, .int .u64 0] 57)).alloc (.cells #[.int .u8 (z0 / 64), .int .u8 (z0 / 8 % 8), .int .u8 (z0 % 8), .int .u8 z1, .int .i8 (IntKind.i8.wrap z2), .int .i8 (IntKind.i8.wrap z3), .int .u32 0, .int .u32 0, .int .u32 0, .int .u64 0, .int .u64 0, .int .u64 0, .int .u64 0] 57)).drew)
  case first =>
    go_region_held3 (fun w' => w'.cell? ⟨g, o, none⟩ = some (.int .u8 z0) ∧ w'.cell? ⟨g, o + 1, none⟩ = some (.int .u8 z1) ∧ w'.cell? ⟨g, o + 2, none⟩ = some (.int .u8 z2) ∧ w'.cell? ⟨g, o + 3, none⟩ = some (.int .u8 z3)) (go_keep) (fail)
    all_goals (go_wp2_with fail; go_meet; exact ⟨rfl, by rw [D.out.1, D.out.2.1, D.out.2.2]⟩)
  case rest =>
    obtain ⟨rfl, rfl⟩ := hcut
    go_wp2_with fail
    refine ((HR.out _ (cells_two w _ _)).1 _).mono ?_
    rintro e w0 ⟨rfl, rfl⟩
    go_wp2_with fail
    refine ((HR.out _ (cells_two w _ _)).2.1 _).mono ?_
    rintro e w1 ⟨rfl, rfl⟩
    go_wp2_with fail
    refine ((HR.out _ (cells_two w _ _)).2.2.1 _).mono ?_
    rintro e w2 ⟨rfl, rfl⟩
    go_wp2_with fail
    refine ((HR.out _ (cells_two w _ _)).2.2.2.1 _).mono ?_
    rintro e w3 ⟨rfl, rfl⟩
    go_wp2_with fail
    refine ((HR.out _ (cells_two w _ _)).2.2.2.2.1 _).mono ?_
    rintro e w4 ⟨rfl, rfl⟩
    go_wp2_with fail
    refine ((HR.out _ (cells_two w _ _)).2.2.2.2.2.1 _).mono ?_
    rintro e w5 ⟨rfl, rfl⟩
    go_wp2_with fail
    refine ((HR.out _ (cells_two w _ _)).2.2.2.2.2.2 _).mono ?_
    rintro e w6 ⟨rfl, rfl⟩
    go_wp2
    refine bodyPost_ret (v := .tuple #[.agg #[.int .u8 (z0 / 64), .int .u8 (z0 / 8 % 8), .int .u8 (z0 % 8), .int .u8 z1, .int .i8 (IntKind.i8.wrap z2), .int .i8 (IntKind.i8.wrap z3), .int .u32 d4, .int .u32 d8, .int .u32 d12, .int .u64 d16, .int .u64 d24, .int .u64 d32, .int .u64 d40], .int .i64 0]) (by simp [results, Try.results64, go_sem]) rfl ⟨rfl, ?_⟩
    exact (((Below.refl _ _).alloc (Nat.le_refl _) _).alloc (by simp) _).drew


end Go.Proofs.Ytfknefpfekjnnaa
