/- Packets and their bytes: the calls of package packet and of the document's answers that lay a packet's bytes. -/
import Derived.Test.YtfknefpfekjnnaaWrite
import Derived.Handy
namespace Go.Proofs.Ytfknefpfekjnnaa
open Go.RowKit

/-- A packet's numbers. -/
structure Pk where
  l : Int
  v : Int
  m : Int
  s : Int
  po : Int
  pr : Int
  de : Int
  di : Int
  rs : Int
  rf : Int
  og : Int
  rc : Int
  xm : Int

structure Pk.In (p : Pk) : Prop where
  l0 : 0 ≤ p.l
  l1 : p.l ≤ 255
  v0 : 0 ≤ p.v
  v1 : p.v ≤ 255
  m0 : 0 ≤ p.m
  m1 : p.m ≤ 255
  s0 : 0 ≤ p.s
  s1 : p.s ≤ 255
  po0 : -128 ≤ p.po
  po1 : p.po ≤ 127
  pr0 : -128 ≤ p.pr
  pr1 : p.pr ≤ 127
  de0 : 0 ≤ p.de
  de1 : p.de ≤ 4294967295
  di0 : 0 ≤ p.di
  di1 : p.di ≤ 4294967295
  rs0 : 0 ≤ p.rs
  rs1 : p.rs ≤ 4294967295
  rf0 : 0 ≤ p.rf
  rf1 : p.rf ≤ 18446744073709551615
  og0 : 0 ≤ p.og
  og1 : p.og ≤ 18446744073709551615
  rc0 : 0 ≤ p.rc
  rc1 : p.rc ≤ 18446744073709551615
  xm0 : 0 ≤ p.xm
  xm1 : p.xm ≤ 18446744073709551615

/-- Nothing is wrong with it. -/
structure Pk.Fits (p : Pk) : Prop where
  l : p.l ≤ 3
  v : p.v ≤ 7
  m : p.m ≤ 7

def Pk.bytes (p : Pk) : List Int :=
  [p.l * 64 + p.v * 8 + p.m, p.s, p.po % 256, p.pr % 256] ++ (be 4 p.de ++ (be 4 p.di ++ (be 4 p.rs ++ (be 8 p.rf ++ (be 8 p.og ++ (be 8 p.rc ++ be 8 p.xm))))))
theorem Pk.bytes_length (p : Pk) : p.bytes.length = 48 := by simp [Pk.bytes, be_length]

theorem box_cell {w w' : World} {cs : Array Value} {t : TypeId} (hb : Below (w.heap.size + 1) (w.alloc (.cells cs t)) w') (k : Nat) : w'.cell? ⟨w.heap.size, k, none⟩ = cs[k]? := by
  rw [hb.cell (p := ⟨w.heap.size, k, none⟩) (by show w.heap.size < w.heap.size + 1; omega)]
  exact cell_of_row _ _ _ _ _ _ (heap_alloc_new w _)
theorem below_box {w w' : World} {o : Obj} (hb : Below (w.heap.size + 1) (w.alloc o) w') : Below w.heap.size w w' :=
  ((Below.refl _ w).alloc (Nat.le_refl _) o).trans (hb.mono (by omega))
theorem own_base {w : World} {B B' : Nat} {v : Value} {xs : List Int} (h : Own w B v xs) (hB : B' ≤ B) : Own w B' v xs := by
  refine ⟨h.1, ?_⟩
  rcases h.2 with h0 | ⟨g, cap, cur, h1, h2, h3⟩
  · exact .inl h0
  · exact .inr ⟨g, cap, cur, h1, by omega, h3⟩

theorem check_ok (p : Pk) (w : World) (hp : p.In) (hf : p.Fits) :
    Calls Try.prog 60 #[.agg #[.int .u8 p.l, .int .u8 p.v, .int .u8 p.m, .int .u8 p.s, .int .i8 p.po, .int .i8 p.pr, .int .u32 p.de, .int .u32 p.di, .int .u32 p.rs, .int .u64 p.rf, .int .u64 p.og, .int .u64 p.rc, .int .u64 p.xm]] w fun e w' => e = .returned (.int .i64 0) ∧ Below w.heap.size w w' := by
  have h1 := hf.l; have h2 := hf.v; have h3 := hf.m; have h4 := hp.l0; have h5 := hp.v0; have h6 := hp.m0
  go_enter Try.func60, Try.ntmps60
  go_wp2
  go_ret
  exact ⟨rfl, (Below.refl _ _).alloc (Nat.le_refl _) _⟩
theorem check_bad (p : Pk) (w : World) (hp : p.In) (hf : ¬ p.Fits) :
    Calls Try.prog 60 #[.agg #[.int .u8 p.l, .int .u8 p.v, .int .u8 p.m, .int .u8 p.s, .int .i8 p.po, .int .i8 p.pr, .int .u32 p.de, .int .u32 p.di, .int .u32 p.rs, .int .u64 p.rf, .int .u64 p.og, .int .u64 p.rc, .int .u64 p.xm]] w fun e w' => e = .returned (.int .i64 3) ∧ Below w.heap.size w w' := by
  have hd : 3 < p.l ∨ (p.l ≤ 3 ∧ 7 < p.v) ∨ (p.l ≤ 3 ∧ p.v ≤ 7 ∧ 7 < p.m) := by
    by_cases h1 : p.l ≤ 3
    · by_cases h2 : p.v ≤ 7
      · by_cases h3 : p.m ≤ 7
        · exact absurd ⟨h1, h2, h3⟩ hf
        · omega
      · omega
    · omega
  have h4 := hp.l0; have h5 := hp.v0; have h6 := hp.m0
  clear hf
  rcases hd with hd | ⟨hd, he⟩ | ⟨hd, he, hg⟩
  all_goals
    go_enter Try.func60, Try.ntmps60
    go_wp2
    go_ret
    exact ⟨rfl, (Below.refl _ _).alloc (Nat.le_refl _) _⟩
theorem write_at (B : Nat) (v : Value) (xs zs : List Int) (sz : Int) (size h m : Nat) (w : World) (hown : Own w B v xs) (hB : B ≤ w.heap.size) (hr : Row64 w h zs) (esz : sz = size) (em : zs.length = m)
    (hs : size ≤ 8) (hz : zs.length ≤ 4) (hx : xs.length ≤ 100) (hzb : ∀ z ∈ zs, 0 ≤ z ∧ z ≤ 18446744073709551615) :
    Calls Try.prog 71 #[v, .int .i64 sz, .slice (some ⟨h, 0, none⟩) m m] w (GivesRow B (xs ++ zs.flatMap (be size)) w) := by
  subst esz; subst em
  exact write_any B v xs zs size h w hown hB hr hs hz hx hzb

theorem first_byte (l v m : Int) (l0 : 0 ≤ l) (l1 : l ≤ 3) (v0 : 0 ≤ v) (v1 : v ≤ 7) (m0 : 0 ≤ m) (m1 : m ≤ 7) : bits .or .u8 (bits .or .u8 (l * 64) (v * 8)) m = l * 64 + v * 8 + m := by
  rw [bits_join .u8 8 (by decide) (by intro n _ _; simp only [IntKind.wrap_u8]; omega) 6 (l * 64) (v * 8) (by omega) (by omega) (by omega) (by omega) (by omega) (by omega)]
  exact bits_join .u8 8 (by decide) (by intro n _ _; simp only [IntKind.wrap_u8]; omega) 3 _ m (by omega) (by omega) (by omega) (by omega) (by omega) (by omega)
theorem be_one (x : Int) (h0 : 0 ≤ x) (h1 : x ≤ 255) : be 1 x = [x] := by simp [be]; omega

theorem row_new (w : World) (zs : List Int) (cs : Array Value) (h : cs = (zs.map (Value.int .u64)).toArray) : Row64 (w.alloc (.cells cs 34)) w.heap.size zs := by
  subst h; exact heap_alloc_new w _
theorem two_below {B : Nat} {a w w' : World} {o : Obj} (hb : Below B a w) (hB : B ≤ w.heap.size) (h2 : Below B (w.alloc o) w') : Below B a w' ∧ B ≤ w'.heap.size := by
  refine ⟨(hb.alloc hB o).trans h2, ?_⟩
  have := h2.size
  have : (w.alloc o).heap.size = w.heap.size + 1 := by simp
  omega
theorem bytes_laid (p : Pk) (hp : p.In) (hf : p.Fits) : (([] ++ [p.l * 64 + p.v * 8 + p.m, p.s, p.po % 256, p.pr % 256].flatMap (be 1)) ++ [p.de, p.di, p.rs].flatMap (be 4)) ++ [p.rf, p.og, p.rc, p.xm].flatMap (be 8) = p.bytes := by
  have a1 := hp.l0; have a2 := hf.l; have a3 := hp.v0; have a4 := hf.v; have a5 := hp.m0; have a6 := hf.m; have a7 := hp.s0; have a8 := hp.s1
  simp only [List.flatMap_cons, List.flatMap_nil, List.nil_append, List.append_nil]
  rw [be_one _ (by omega) (by omega), be_one _ a7 a8, be_one (p.po % 256) (by omega) (by omega), be_one (p.pr % 256) (by omega) (by omega)]
  unfold Pk.bytes
  simp only [List.append_assoc, List.cons_append, List.nil_append]


end Go.Proofs.Ytfknefpfekjnnaa
