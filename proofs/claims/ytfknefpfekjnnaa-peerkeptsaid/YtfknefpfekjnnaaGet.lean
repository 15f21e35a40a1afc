/- The calls that read a packet of bytes: package packet's and the document's. -/
import Derived.Test.YtfknefpfekjnnaaPut
import Derived.StillTailTactics
namespace Go.Proofs.Ytfknefpfekjnnaa
open Go.RowKit

theorem still_tail {P : Program} {id : Nat} {Q : Exit → Act → World → Prop} {a : Act} {w : World} {l : List Oper} (n : Nat) (hm : P.follows .mixedOrders = true) (hB : Region.lexTailB .any l.toArray n = true)
    (h : wpStill P l.toArray w.drew (fun a' => wpList P l.toArray Q (l.drop n) a' w.drew) (l.take n) a) : (Code.region id l.toArray true).wp P Q a w :=
  wp_region_still_tail n hm hB h

/-- The same, the world behind the draw a letter. -/
theorem still_tail_any {P : Program} {id : Nat} {Q : Exit → Act → World → Prop} {a : Act} {w : World} {l : List Oper} (n : Nat) (hm : P.follows .mixedOrders = true) (hB : Region.lexTailB .any l.toArray n = true)
    (h : ∀ W : World, W = w.drew → wpStill P l.toArray W (fun a' => wpList P l.toArray Q (l.drop n) a' W) (l.take n) a) : (Code.region id l.toArray true).wp P Q a w :=
  wp_region_still_tail n hm hB (h _ rfl)

def seg (zs : List Int) (i n : Nat) : List Int := (zs.drop i).take n
/-- The packet that bytes are. -/
def pkOf (zs : List Int) : Pk where
  l := zs.getD 0 0 / 64
  v := zs.getD 0 0 / 8 % 8
  m := zs.getD 0 0 % 8
  s := zs.getD 1 0
  po := IntKind.i8.wrap (zs.getD 2 0)
  pr := IntKind.i8.wrap (zs.getD 3 0)
  de := num (seg zs 4 4)
  di := num (seg zs 8 4)
  rs := num (seg zs 12 4)
  rf := num (seg zs 16 8)
  og := num (seg zs 24 8)
  rc := num (seg zs 32 8)
  xm := num (seg zs 40 8)

set_option linter.unusedVariables false in
set_option maxRecDepth 100000 in
set_option maxHeartbeats 2000000 in
theorem get_core (g o len cap : Nat) (z0 z1 z2 z3 d4 d8 d12 d16 d24 d32 d40 : Int) (w : World) (h48 : 48 ≤ len) (hlc : len ≤ cap) (hcm : cap ≤ maxLen)
    (b0 : 0 ≤ z0) (b1 : z0 ≤ 255) (b2 : 0 ≤ z1) (b3 : z1 ≤ 255) (b4 : 0 ≤ z2) (b5 : z2 ≤ 255) (b6 : 0 ≤ z3) (b7 : z3 ≤ 255)
    (e4 : 0 ≤ d4) (f4 : d4 ≤ 4294967295) (e8 : 0 ≤ d8) (f8 : d8 ≤ 4294967295) (e12 : 0 ≤ d12) (f12 : d12 ≤ 4294967295)
    (hg : g < w.heap.size)
    (c0 : w.cell? ⟨g, o, none⟩ = some (.int .u8 z0)) (c1 : w.cell? ⟨g, o + 1, none⟩ = some (.int .u8 z1)) (c2 : w.cell? ⟨g, o + 2, none⟩ = some (.int .u8 z2)) (c3 : w.cell? ⟨g, o + 3, none⟩ = some (.int .u8 z3))
    (R : ∀ W : World, (∀ p : Addr, p.block < w.heap.size → W.cell? p = w.cell? p) →
      (∀ c, Calls Try.prog 49 #[.slice (some ⟨g, o + 4, none⟩) 4 c] W fun e w' => e = .returned (.int .u64 d4) ∧ w' = W) ∧
      (∀ c, Calls Try.prog 49 #[.slice (some ⟨g, o + 8, none⟩) 4 c] W fun e w' => e = .returned (.int .u64 d8) ∧ w' = W) ∧
      (∀ c, Calls Try.prog 49 #[.slice (some ⟨g, o + 12, none⟩) 4 c] W fun e w' => e = .returned (.int .u64 d12) ∧ w' = W) ∧
      (∀ c, Calls Try.prog 49 #[.slice (some ⟨g, o + 16, none⟩) 8 c] W fun e w' => e = .returned (.int .u64 d16) ∧ w' = W) ∧
      (∀ c, Calls Try.prog 49 #[.slice (some ⟨g, o + 24, none⟩) 8 c] W fun e w' => e = .returned (.int .u64 d24) ∧ w' = W) ∧
      (∀ c, Calls Try.prog 49 #[.slice (some ⟨g, o + 32, none⟩) 8 c] W fun e w' => e = .returned (.int .u64 d32) ∧ w' = W) ∧
      (∀ c, Calls Try.prog 49 #[.slice (some ⟨g, o + 40, none⟩) 8 c] W fun e w' => e = .returned (.int .u64 d40) ∧ w' = W)) :
    Calls Try.prog 26 #[.slice (some ⟨g, o, none⟩) len cap] w fun e w' =>
      e = .returned (.tuple #[.agg #[.int .u8 (z0 / 64), .int .u8 (z0 / 8 % 8), .int .u8 (z0 % 8), .int .u8 z1, .int .i8 (IntKind.i8.wrap z2), .int .i8 (IntKind.i8.wrap z3), .int .u32 d4, .int .u32 d8, .int .u32 d12, .int .u64 d16, .int .u64 d24, .int .u64 d32, .int .u64 d40], .int .i64 0]) ∧ Below w.heap.size w w' := by
  have HR := Lib.hid R
  clear R
  unfold maxLen at hcm
  have q0 : (48 : Int) ≤ (len : Int) := by omega
  have q1 : (len : Int) ≤ (cap : Int) := by omega
  have j0 : 0 < len := by omega
  have j1 : (1 : Int) < (len : Int) := by omega
  have j2 : (2 : Int) < (len : Int) := by omega
  have j3 : (3 : Int) < (len : Int) := by omega
  have k8 : (8 : Int) ≤ (cap : Int) := by omega
  have k12 : (12 : Int) ≤ (cap : Int) := by omega
  have k16 : (16 : Int) ≤ (cap : Int) := by omega
  have k24 : (24 : Int) ≤ (cap : Int) := by omega
  have k32 : (32 : Int) ≤ (cap : Int) := by omega
  have k40 : (40 : Int) ≤ (cap : Int) := by omega
  have k48 : (48 : Int) ≤ (cap : Int) := by omega
  have n4 : ¬ cap = 4 := by omega
  have n8 : ¬ cap = 8 := by omega
  have n12 : ¬ cap = 12 := by omega
  have n16 : ¬ cap = 16 := by omega
  have n24 : ¬ cap = 24 := by omega
  have n32 : ¬ cap = 32 := by omega
  have n40 : ¬ cap = 40 := by omega
  have u4 : IntKind.u32.wrap d4 = d4 := by simp only [IntKind.wrap_u32]; omega
  have u8 : IntKind.u32.wrap d8 = d8 := by simp only [IntKind.wrap_u32]; omega
  have u12 : IntKind.u32.wrap d12 = d12 := by simp only [IntKind.wrap_u32]; omega
  have m1 : bits .and .u8 (z0 / 8) 7 = z0 / 8 % 8 := bits_mask .u8 8 (by decide) wraps_u8 3 (by decide) _ (by omega) (by omega)
  have m2 : bits .and .u8 z0 7 = z0 % 8 := bits_mask .u8 8 (by decide) wraps_u8 3 (by decide) _ (by omega) (by omega)
  go_enter Try.func26, Try.ntmps26
  go_wp2
  refine still_tail_any 49 (by kernel_rfl) (by kernel_rfl) ?_
  intro W eW
  simp only [List.take_succ_cons, List.take_zero, List.drop_succ_cons, List.drop_zero]
  have hW : ∀ p : Addr, p.block < w.heap.size → W.cell? p = w.cell? p := by
    intro p hp; rw [eW]; exact World.cell?_alloc_lt _ _ _ hp
  have HK := Lib.hid (HR.out W hW)
  have c0' := (hW ⟨g, o, none⟩ hg).trans c0
  have c1' := (hW ⟨g, o + 1, none⟩ hg).trans c1
  have c2' := (hW ⟨g, o + 2, none⟩ hg).trans c2
  have c3' := (hW ⟨g, o + 3, none⟩ hg).trans c3
  have EW := Lib.hid eW
  clear eW hW c0 c1 c2 c3 HR
  repeat still_step
  still_call (HK.out.1 _)
  repeat still_step
  still_call (HK.out.2.1 _)
  repeat still_step
  still_call (HK.out.2.2.1 _)
  repeat still_step
  still_call (HK.out.2.2.2.1 _)
  repeat still_step
  still_call (HK.out.2.2.2.2.1 _)
  repeat still_step
  still_call (HK.out.2.2.2.2.2.1 _)
  repeat still_step
  still_call (HK.out.2.2.2.2.2.2 _)
  repeat still_step
  refine wpStill_nil ?_
  have eW := EW.out
  clear EW HK c0' c1' c2' c3'
  subst eW
  go_wp2
  refine bodyPost_ret (v := .tuple #[.agg #[.int .u8 (z0 / 64), .int .u8 (z0 / 8 % 8), .int .u8 (z0 % 8), .int .u8 z1, .int .i8 (IntKind.i8.wrap z2), .int .i8 (IntKind.i8.wrap z3), .int .u32 d4, .int .u32 d8, .int .u32 d12, .int .u64 d16, .int .u64 d24, .int .u64 d32, .int .u64 d40], .int .i64 0]) (by simp [results, Try.results26, go_sem]) rfl ⟨rfl, ?_⟩
  exact ((Below.refl _ _).alloc (Nat.le_refl _) _).drew
end Go.Proofs.Ytfknefpfekjnnaa
