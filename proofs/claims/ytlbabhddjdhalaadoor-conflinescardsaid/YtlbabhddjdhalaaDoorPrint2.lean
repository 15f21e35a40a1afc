/- Print. -/
import Derived.Test.YtlbabhddjdhalaaDoorPrint
namespace Go.Proofs.YtlbabhddjdhalaaDoor
open Go.RowKit Go.Proofs.Lx

def srvT : List Int → Bs
  | [] => []
  | a :: r => lineOf wServer [a] ++ srvT r
def printOf (c : Cfg) : Bs := srvT c.S ++ lineOf wQuorum [c.q] ++ lineOf wPoll [c.l, c.m] ++ lineOf wDelay [c.d] ++ lineOf wSlew [c.s]
theorem srvT_snoc : ∀ (xs : List Int) (x : Int), srvT (xs ++ [x]) = srvT xs ++ lineOf wServer [x]
  | [], x => by simp [srvT]
  | y :: xs, x => by simp [srvT, srvT_snoc xs x]
theorem take_srvT {xs : List Int} {k : Nat} (h : k < xs.length) : srvT (xs.take (k + 1)) = srvT (xs.take k) ++ lineOf wServer [xs[k]] := by
  rw [List.take_succ_eq_append_getElem h, srvT_snoc]
theorem line_len (l : Bs) (ns : List Int) (hl : l.length ≤ 6) (hn : ns.length ≤ 2) : (lineOf l ns).length ≤ 60 := by
  unfold lineOf
  match ns, hn with
  | [], _ => simp [numsT]; omega
  | [a], _ => have := text_len a; simp [numsT]; omega
  | [a, b], _ => have := text_len a; have := text_len b; simp [numsT]; omega
theorem srvT_len : ∀ (xs : List Int), (srvT xs).length ≤ 60 * xs.length
  | [] => by simp [srvT]
  | a :: r => by
    have := line_len wServer [a] (by decide) (by simp)
    have := srvT_len r
    simp [srvT]; omega
def Bld (w : World) (b : Nat) (l : Bs) : Prop := Lib.IsBuilder 50 5 b b (Lib.byteCells l) w
theorem Bld.below {w w' : World} {b : Nat} {l : Bs} (h : Bld w b l) (hb : Below w.heap.size w w') : Bld w' b l := by
  have key {p : Value} (h : Lib.BuilderAt 50 5 b b p (Lib.byteCells l) w) : Lib.BuilderAt 50 5 b b p (Lib.byteCells l) w' := by
    obtain ⟨h1, v, h2, h3, h4⟩ := h
    exact ⟨h1, v, (hb.block b (Array.getElem?_eq_some_iff.1 h2).1).trans h2, own_below h3 hb (Nat.le_refl _), h4⟩
  rcases h with h | h
  · exact .inl (key h)
  · exact .inr (key h)
theorem write_any (w : World) (b : Nat) (l : Bs) (s : ByteArray) (h : Bld w b l) (hl : l.length + s.size ≤ 100000) (hb : b ≤ w.heap.size) :
    Calls Tryd.prog 24 #[.pointer (some ⟨b, 0, none⟩), .string s] w fun e w' => e = .returned (.tuple #[.int .i64 s.size, .nilIface]) ∧ Bld w' b (l ++ s.data.toList) ∧ Below b w w' := by
  refine (Any.Builder_WriteString { Tryd.lays156 with } Tryd.Builder_Extra_156 b b (Lib.byteCells l) s w h (by rw [Lib.byteCells_length]; omega) hb).mono ?_
  rintro e w' ⟨rfl, h1, h2⟩
  refine ⟨rfl, .inr ?_, h2⟩
  rw [Lib.byteCells_append]
  exact h1
theorem bld_new (w : World) : Bld (w.alloc (.cells #[.pointer none, .slice none 0 0] 50)) w.heap.size [] :=
  .inl ⟨Nat.le_refl _, _, heap_alloc_new _ _, World.ownsRow_nil _ _ _ _, by simp [Value.ownBlock]⟩
theorem ints_one (w : World) (x : Int) : Ints (w.alloc (.cells #[.int .i64 x] 3)) (.slice (some ⟨w.heap.size, 0, none⟩) 1 1) [x] :=
  ⟨_, 1, rfl, Nat.le_refl _, fun _ => ⟨w.heap.size, 0, rfl, by simp, fun j y hj => by
    match j, hj with
    | 0, hj => simp at hj; subst hj; simp⟩⟩
theorem ints_two (w : World) (x y : Int) : Ints (w.alloc (.cells #[.int .i64 x, .int .i64 y] 3)) (.slice (some ⟨w.heap.size, 0, none⟩) 2 2) [x, y] :=
  ⟨_, 2, rfl, Nat.le_refl _, fun _ => ⟨w.heap.size, 0, rfl, by simp, fun j z hj => by
    match j, hj with
    | 0, hj => simp at hj; subst hj; simp
    | 1, hj => simp at hj; subst hj; simp⟩⟩
def i64 (x : Int) : Prop := -9223372036854775808 ≤ x ∧ x ≤ 9223372036854775807
set_option maxRecDepth 100000 in
set_option maxHeartbeats 4000000 in
theorem print_bad (v : Value) (c : Cfg) (w : World) (h : Ints w v c.S) (hl : c.S.length ≤ 1000000) (hx : checkOf c ≠ 0) :
    Calls Tryd.prog 11 #[cval v c] w fun e w' => e = .returned (.tuple #[.string ⟨#[]⟩, .int .i64 (checkOf c : Nat)]) ∧ Below w.heap.size w w' := by
  obtain ⟨A, cp, rfl, hc⟩ := h.len
  obtain ⟨W, hW⟩ : ∃ W, W = w.alloc (.cells #[.slice A c.S.length cp, .int .i64 c.q, .int .i64 c.l, .int .i64 c.m, .int .i64 c.d, .int .i64 c.s] 24) := ⟨_, rfl⟩
  have hbW : Below w.heap.size w W := by rw [hW]; exact (Below.refl _ _).alloc (Nat.le_refl _) _
  have K := Lib.hid (check_any _ c W (h.below hbW (Nat.le_refl _)) hl)
  unfold cval at K ⊢
  obtain ⟨x, hxx⟩ : ∃ x, x = checkOf c := ⟨_, rfl⟩
  rw [← hxx] at hx K ⊢
  obtain ⟨N, hN⟩ : ∃ N, N = c.S.length := ⟨_, rfl⟩
  rw [← hN] at K hW ⊢
  have t1 : ((x : Int) != 0) = true := by simp; omega
  clear h hl hc hN hxx
  go_enter Tryd.func11, Tryd.ntmps11
  go_wp2_with (rw [← hW]; go_at_call 13; refine K.out.mono ?_; rintro e w1 ⟨rfl, hb1⟩)
  go_ret2
  exact ⟨rfl, hbW.trans (hb1.mono hbW.size)⟩
end Go.Proofs.YtlbabhddjdhalaaDoor
