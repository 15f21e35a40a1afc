/- The packet that bytes are: Get, of bytes wherever they lie; and back. -/
import Derived.Test.YtfknefpfekjnnaaGet
namespace Go.Proofs.Ytfknefpfekjnnaa
open Go.RowKit

theorem wrap_i8 (n : Int) : IntKind.i8.wrap n = (n + 128) % 256 - 128 := by
  simp [IntKind.wrap, IntKind.bits, IntKind.signed]
  split <;> omega
theorem seg_length (zs : List Int) (i n : Nat) (h : i + n ≤ zs.length) : (seg zs i n).length = n := by unfold seg; simp; omega
theorem seg_bytes (zs : List Int) (i n : Nat) (h : AllBytes zs) : AllBytes (seg zs i n) := fun z hz => h z (List.mem_of_mem_drop (List.mem_of_mem_take hz))
theorem seg_has {w : World} {g o : Nat} {zs : List Int} (i n : Nat) (h : i + n ≤ zs.length) (hc : Has w g o zs) : Has w g (o + i) (seg zs i n) := by
  intro t ht
  rw [seg_length zs i n h] at ht
  have := hc (i + t) (by omega)
  rw [Nat.add_assoc, this]
  congr 2
  unfold seg
  simp [List.getD, ht]
theorem num4 (zs : List Int) (h : AllBytes zs) (hl : zs.length = 4) : 0 ≤ num zs ∧ num zs ≤ 4294967295 := by
  obtain ⟨h0, h1⟩ := num_bd zs h
  rw [hl] at h1
  exact ⟨h0, by have e : (256 : Int) ^ 4 = 4294967296 := by decide
                rw [e] at h1; omega⟩
theorem num8 (zs : List Int) (h : AllBytes zs) (hl : zs.length = 8) : 0 ≤ num zs ∧ num zs ≤ 18446744073709551615 := by
  obtain ⟨h0, h1⟩ := num_bd zs h
  rw [hl] at h1
  exact ⟨h0, by have e : (256 : Int) ^ 8 = 18446744073709551616 := by decide
                rw [e] at h1; omega⟩
theorem has_keep {w W : World} {g o : Nat} {zs : List Int} (hg : g < w.heap.size) (hW : ∀ p : Addr, p.block < w.heap.size → W.cell? p = w.cell? p) (h : Has w g o zs) : Has W g o zs :=
  fun t ht => (hW ⟨g, o + t, none⟩ hg).trans (h t ht)

theorem get_ok (g o len cap : Nat) (zs : List Int) (w : World) (hl : zs.length = len) (h48 : 48 ≤ len) (hlc : len ≤ cap) (hcm : cap ≤ maxLen) (hb : AllBytes zs) (hg : g < w.heap.size) (hc : Has w g o zs) :
    Calls Try.prog 26 #[.slice (some ⟨g, o, none⟩) len cap] w fun e w' => e = .returned (.tuple #[.agg #[.int .u8 (pkOf zs).l, .int .u8 (pkOf zs).v, .int .u8 (pkOf zs).m, .int .u8 (pkOf zs).s, .int .i8 (pkOf zs).po, .int .i8 (pkOf zs).pr, .int .u32 (pkOf zs).de, .int .u32 (pkOf zs).di, .int .u32 (pkOf zs).rs, .int .u64 (pkOf zs).rf, .int .u64 (pkOf zs).og, .int .u64 (pkOf zs).rc, .int .u64 (pkOf zs).xm], .int .i64 0]) ∧ Below w.heap.size w w' := by
  obtain ⟨x0, y0⟩ := byte_at zs 0 hb (by omega)
  obtain ⟨x1, y1⟩ := byte_at zs 1 hb (by omega)
  obtain ⟨x2, y2⟩ := byte_at zs 2 hb (by omega)
  obtain ⟨x3, y3⟩ := byte_at zs 3 hb (by omega)
  obtain ⟨x4, y4⟩ := num4 _ (seg_bytes zs 4 4 hb) (seg_length zs 4 4 (by omega))
  obtain ⟨x8, y8⟩ := num4 _ (seg_bytes zs 8 4 hb) (seg_length zs 8 4 (by omega))
  obtain ⟨x12, y12⟩ := num4 _ (seg_bytes zs 12 4 hb) (seg_length zs 12 4 (by omega))
  refine get_core g o len cap _ _ _ _ _ _ _ _ _ _ _ w h48 hlc hcm x0 y0 x1 y1 x2 y2 x3 y3 x4 y4 x8 y8 x12 y12 hg (hc 0 (by omega)) (hc 1 (by omega)) (hc 2 (by omega)) (hc 3 (by omega)) ?_
  intro W hW
  have hc' := has_keep hg hW hc
  have one : ∀ i n, n ≤ 8 → i + n ≤ zs.length → ∀ c, Calls Try.prog 49 #[.slice (some ⟨g, o + i, none⟩) n c] W fun e w' => e = .returned (.int .u64 (num (seg zs i n))) ∧ w' = W :=
    fun i n h8 h c => (read_any g (o + i) n c (seg zs i n) W (seg_length zs i n h) h8 (seg_bytes zs i n hb) (seg_has i n h hc')).mono fun _ _ hh => ⟨hh.1, hh.2.symm⟩
  exact ⟨one 4 4 (by decide) (by omega), one 8 4 (by decide) (by omega), one 12 4 (by decide) (by omega), one 16 8 (by decide) (by omega), one 24 8 (by decide) (by omega), one 32 8 (by decide) (by omega), one 40 8 (by decide) (by omega)⟩

def none13 : Array Value := #[.int .u8 0, .int .u8 0, .int .u8 0, .int .u8 0, .int .i8 0, .int .i8 0, .int .u32 0, .int .u32 0, .int .u32 0, .int .u64 0, .int .u64 0, .int .u64 0, .int .u64 0]
theorem get_short (A : Option Addr) (len cap : Nat) (w : World) (h : len < 48) :
    Calls Try.prog 26 #[.slice A len cap] w fun e w' => e = .returned (.tuple #[.agg #[.int .u8 0, .int .u8 0, .int .u8 0, .int .u8 0, .int .i8 0, .int .i8 0, .int .u32 0, .int .u32 0, .int .u32 0, .int .u64 0, .int .u64 0, .int .u64 0, .int .u64 0], .int .i64 5]) ∧ Below w.heap.size w w' := by
  have hh : (len : Int) < 48 := by omega
  go_enter Try.func26, Try.ntmps26
  go_wp2
  refine bodyPost_ret (v := .tuple #[.agg #[.int .u8 0, .int .u8 0, .int .u8 0, .int .u8 0, .int .i8 0, .int .i8 0, .int .u32 0, .int .u32 0, .int .u32 0, .int .u64 0, .int .u64 0, .int .u64 0, .int .u64 0], .int .i64 5]) (by simp [results, Try.results26, go_sem]) rfl ⟨rfl, ?_⟩
  exact ((Below.refl _ _).alloc (Nat.le_refl _) _)

theorem pkOf_in (zs : List Int) (h : AllBytes zs) (hl : 48 ≤ zs.length) : (pkOf zs).In := by
  obtain ⟨x0, y0⟩ := byte_at zs 0 h (by omega)
  obtain ⟨x1, y1⟩ := byte_at zs 1 h (by omega)
  obtain ⟨x2, y2⟩ := byte_at zs 2 h (by omega)
  obtain ⟨x3, y3⟩ := byte_at zs 3 h (by omega)
  obtain ⟨x4, y4⟩ := num4 _ (seg_bytes zs 4 4 h) (seg_length zs 4 4 (by omega))
  obtain ⟨x8, y8⟩ := num4 _ (seg_bytes zs 8 4 h) (seg_length zs 8 4 (by omega))
  obtain ⟨x12, y12⟩ := num4 _ (seg_bytes zs 12 4 h) (seg_length zs 12 4 (by omega))
  obtain ⟨x16, y16⟩ := num8 _ (seg_bytes zs 16 8 h) (seg_length zs 16 8 (by omega))
  obtain ⟨x24, y24⟩ := num8 _ (seg_bytes zs 24 8 h) (seg_length zs 24 8 (by omega))
  obtain ⟨x32, y32⟩ := num8 _ (seg_bytes zs 32 8 h) (seg_length zs 32 8 (by omega))
  obtain ⟨x40, y40⟩ := num8 _ (seg_bytes zs 40 8 h) (seg_length zs 40 8 (by omega))
  constructor <;> unfold pkOf <;> simp only [wrap_i8] <;> first | assumption | omega
theorem pkOf_fits (zs : List Int) (h : AllBytes zs) (hl : 48 ≤ zs.length) : (pkOf zs).Fits := by
  obtain ⟨x0, y0⟩ := byte_at zs 0 h (by omega)
  constructor <;> unfold pkOf <;> simp only [] <;> omega

theorem pk_ext {p q : Pk} (h : p.l = q.l ∧ p.v = q.v ∧ p.m = q.m ∧ p.s = q.s ∧ p.po = q.po ∧ p.pr = q.pr ∧ p.de = q.de ∧ p.di = q.di ∧ p.rs = q.rs ∧ p.rf = q.rf ∧ p.og = q.og ∧ p.rc = q.rc ∧ p.xm = q.xm) : p = q := by
  cases p; cases q
  simp only at h
  obtain ⟨rfl, rfl, rfl, rfl, rfl, rfl, rfl, rfl, rfl, rfl, rfl, rfl, rfl⟩ := h
  rfl

/-- A packet is got of its bytes, whatever stands behind. -/
theorem pkOf_bytes (p : Pk) (bs : List Int) (hp : p.In) (hf : p.Fits) : pkOf (p.bytes ++ bs) = p := by
  have a1 := hp.l0; have a2 := hf.l; have a3 := hp.v0; have a4 := hf.v; have a5 := hp.m0; have a6 := hf.m
  have a7 := hp.po0; have a8 := hp.po1; have a9 := hp.pr0; have b1 := hp.pr1
  have s4 : seg (p.bytes ++ bs) 4 4 = be 4 p.de := rfl
  have s8 : seg (p.bytes ++ bs) 8 4 = be 4 p.di := rfl
  have s12 : seg (p.bytes ++ bs) 12 4 = be 4 p.rs := rfl
  have s16 : seg (p.bytes ++ bs) 16 8 = be 8 p.rf := rfl
  have s24 : seg (p.bytes ++ bs) 24 8 = be 8 p.og := rfl
  have s32 : seg (p.bytes ++ bs) 32 8 = be 8 p.rc := rfl
  have s40 : seg (p.bytes ++ bs) 40 8 = be 8 p.xm := rfl
  have e4 : (256 : Int) ^ 4 = 4294967296 := by decide
  have e8 : (256 : Int) ^ 8 = 18446744073709551616 := by decide
  have n4 := num_be 4 p.de hp.de0 (by rw [e4]; have := hp.de1; omega)
  have n8 := num_be 4 p.di hp.di0 (by rw [e4]; have := hp.di1; omega)
  have n12 := num_be 4 p.rs hp.rs0 (by rw [e4]; have := hp.rs1; omega)
  have n16 := num_be 8 p.rf hp.rf0 (by rw [e8]; have := hp.rf1; omega)
  have n24 := num_be 8 p.og hp.og0 (by rw [e8]; have := hp.og1; omega)
  have n32 := num_be 8 p.rc hp.rc0 (by rw [e8]; have := hp.rc1; omega)
  have n40 := num_be 8 p.xm hp.xm0 (by rw [e8]; have := hp.xm1; omega)
  refine pk_ext ⟨?_, ?_, ?_, rfl, ?_, ?_, ?_, ?_, ?_, ?_, ?_, ?_, ?_⟩
  · show (p.l * 64 + p.v * 8 + p.m) / 64 = p.l; omega
  · show (p.l * 64 + p.v * 8 + p.m) / 8 % 8 = p.v; omega
  · show (p.l * 64 + p.v * 8 + p.m) % 8 = p.m; omega
  · show IntKind.i8.wrap (p.po % 256) = p.po; simp only [wrap_i8]; omega
  · show IntKind.i8.wrap (p.pr % 256) = p.pr; simp only [wrap_i8]; omega
  · show num (seg _ 4 4) = _; rw [s4, n4]
  · show num (seg _ 8 4) = _; rw [s8, n8]
  · show num (seg _ 12 4) = _; rw [s12, n12]
  · show num (seg _ 16 8) = _; rw [s16, n16]
  · show num (seg _ 24 8) = _; rw [s24, n24]
  · show num (seg _ 32 8) = _; rw [s32, n32]
  · show num (seg _ 40 8) = _; rw [s40, n40]

/-- What is got of any bytes has just the first 48. -/
theorem bytes_pkOf (zs : List Int) (h : AllBytes zs) (hl : 48 ≤ zs.length) : (pkOf zs).bytes = zs.take 48 := by
  obtain ⟨x0, y0⟩ := byte_at zs 0 h (by omega)
  obtain ⟨x2, y2⟩ := byte_at zs 2 h (by omega)
  obtain ⟨x3, y3⟩ := byte_at zs 3 h (by omega)
  have one : ∀ i n, i + n ≤ zs.length → be n (num (seg zs i n)) = seg zs i n := fun i n hh => by
    have := be_num (seg zs i n) (seg_bytes zs i n h)
    rwa [seg_length zs i n hh] at this
  have f : (pkOf zs).l * 64 + (pkOf zs).v * 8 + (pkOf zs).m = zs.getD 0 0 := by
    show zs.getD 0 0 / 64 * 64 + zs.getD 0 0 / 8 % 8 * 8 + zs.getD 0 0 % 8 = zs.getD 0 0
    omega
  have f2 : (pkOf zs).po % 256 = zs.getD 2 0 := by
    show IntKind.i8.wrap (zs.getD 2 0) % 256 = _
    simp only [wrap_i8]; omega
  have f3 : (pkOf zs).pr % 256 = zs.getD 3 0 := by
    show IntKind.i8.wrap (zs.getD 3 0) % 256 = _
    simp only [wrap_i8]; omega
  unfold Pk.bytes
  rw [f, f2, f3]
  show [zs.getD 0 0, zs.getD 1 0, zs.getD 2 0, zs.getD 3 0] ++ (be 4 (num (seg zs 4 4)) ++ (be 4 (num (seg zs 8 4)) ++ (be 4 (num (seg zs 12 4)) ++ (be 8 (num (seg zs 16 8)) ++ (be 8 (num (seg zs 24 8)) ++ (be 8 (num (seg zs 32 8)) ++ be 8 (num (seg zs 40 8)))))))) = _
  rw [one 4 4 (by omega), one 8 4 (by omega), one 12 4 (by omega), one 16 8 (by omega), one 24 8 (by omega), one 32 8 (by omega), one 40 8 (by omega)]
  have cut : ∀ i n m, seg zs i (n + m) = seg zs i n ++ seg zs (i + n) m := fun i n m => by
    unfold seg
    rw [List.take_add, List.drop_drop]
  have h4 : [zs.getD 0 0, zs.getD 1 0, zs.getD 2 0, zs.getD 3 0] = seg zs 0 4 := by
    match zs, hl with
    | a :: b :: c :: d :: r, _ => rfl
  rw [h4, ← cut 32 8 8, ← cut 24 8 16, ← cut 16 8 24, ← cut 12 4 32, ← cut 8 4 36, ← cut 4 4 40, ← cut 0 4 44]
  rfl

end Go.Proofs.Ytfknefpfekjnnaa
