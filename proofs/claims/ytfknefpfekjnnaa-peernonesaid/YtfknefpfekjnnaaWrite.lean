/- The calls that write numbers as bytes behind bytes: package packet's and the document's. -/
import Derived.Test.YtfknefpfekjnnaaRead
import Derived.Maps.AppendAt
import Derived.Deep.AppendLies
namespace Go.Proofs.Ytfknefpfekjnnaa
open Go.RowKit

theorem info5 : (Try.prog.info? 5).map (fun i => (i.zero, i.size, i.bytes)) = some (some (.int .u8 0), 1, 1) := by kernel_rfl

/-- A slice of the call's own that holds bytes. -/
def Own (w : World) (B : Nat) (v : Value) (xs : List Int) : Prop := w.ownsRow B 5 1 v xs.length (xs.map (Value.int .u8))
/-- What a call leaves that answers with bytes of its own, and turned nothing below a block. -/
def GivesRow (B : Nat) (xs : List Int) (w : World) (e : Ending) (w' : World) : Prop := ∃ v, e = .returned v ∧ Own w' B v xs ∧ Below B w w'
/-- A block of numbers. -/
def Row64 (w : World) (h : Nat) (zs : List Int) : Prop := w.heap[h]? = some (.cells (zs.map (Value.int .u64)).toArray 34 (0, 0))

theorem Row64.lt {w : World} {h : Nat} {zs : List Int} (r : Row64 w h zs) : h < w.heap.size := by
  rcases Nat.lt_or_ge h w.heap.size with hlt | hge
  · exact hlt
  · unfold Row64 at r; rw [Array.getElem?_eq_none hge] at r; cases r
theorem Row64.cell {w : World} {h k : Nat} {zs : List Int} (r : Row64 w h zs) (hk : k < zs.length) : w.cell? ⟨h, k, none⟩ = some (.int .u64 (zs.getD k 0)) := by
  rw [cell_of_row w h k _ 34 (0, 0) r]; simp [List.getD, hk]
theorem Row64.alloc {w : World} {h : Nat} {zs : List Int} (r : Row64 w h zs) (o : Obj) : Row64 (w.alloc o) h zs := (Below.heap_alloc w o h r.lt).trans r
theorem Row64.grown {w w' : World} {h B : Nat} {zs : List Int} {v : Value} {n : Nat} {cs : List Value} (r : Row64 w h zs) (ho : w.ownsRow B 5 1 v n cs) (hg : w.grownBy w' v.ownBlock) : Row64 w' h zs := by
  refine (hg.block h r.lt ?_).trans r
  rcases ho.2 with ⟨rfl, _⟩ | ⟨g, cap, cur, rfl, _, hh, _⟩
  · simp [Value.ownBlock]
  · intro he
    have : h = g := by simpa [Value.ownBlock] using he
    subst this
    unfold Row64 at r
    rw [r] at hh
    injection hh with hh
    injection hh with _ ht
    exact absurd ht (by decide)

theorem own_step {w wr w1 : World} {B h : Nat} {v v' : Value} {ys zs : List Int} {d : Int} {o : Obj} (hb : Below B w wr) (hB : B ≤ wr.heap.size) (hown : Own wr B v ys) (hr : Row64 wr h zs)
    (h1 : w1.ownsRow B 5 1 v' (ys.length + 1) (ys.map (Value.int .u8) ++ [.int .u8 d])) (h2 : (wr.alloc o).grownBy w1 v.ownBlock) :
    Own w1 B v' (ys ++ [d]) ∧ Below B w w1 ∧ Row64 w1 h zs ∧ B ≤ w1.heap.size := by
  have hs : (wr.alloc o).heap.size = wr.heap.size + 1 := by simp
  refine ⟨by unfold Own; simpa using h1, (hb.alloc hB o).grown h2 (by omega) (fun k hk => (World.ownsRow.lt hown k hk).1), (hr.alloc o).grown (World.ownsRow.alloc hown o) h2, by have := h2.size; omega⟩

set_option maxHeartbeats 1000000 in
theorem write_any (B : Nat) (v : Value) (xs zs : List Int) (size h : Nat) (w : World) (hown : Own w B v xs) (hB : B ≤ w.heap.size) (hr : Row64 w h zs)
    (hs : size ≤ 8) (hz : zs.length ≤ 4) (hx : xs.length ≤ 100) (hzb : ∀ z ∈ zs, 0 ≤ z ∧ z ≤ 18446744073709551615) :
    Calls Try.prog 71 #[v, .int .i64 size, .slice (some ⟨h, 0, none⟩) zs.length zs.length] w (GivesRow B (xs ++ zs.flatMap (be size)) w) := by
  obtain ⟨T, eT⟩ : ∃ T, T = xs ++ zs.flatMap (be size) := ⟨_, rfl⟩
  rw [← eT]
  have hT : T.length ≤ 132 := by
    rw [eT, List.length_append]
    have : (zs.flatMap (be size)).length = zs.length * size := by
      clear eT hr hz hzb
      induction zs with
      | nil => simp
      | cons z zs ih => simp [be_length, ih, Nat.add_mul]; omega
    rw [this]
    have := Nat.mul_le_mul hz hs
    omega
  have ET := Lib.hid eT
  have HZ := Lib.hid hzb
  have HO := Lib.hid hown
  have HR := Lib.hid hr
  obtain ⟨m, em⟩ : ∃ m, m = zs.length := ⟨_, rfl⟩
  rw [← em]
  have EM := Lib.hid em
  rw [← em] at hz
  clear eT hzb hown hr em
  obtain ⟨i0, hi, hz0, hz1, hz2⟩ := info_parts info5
  have HI := Lib.hid (And.intro hi (And.intro hz0 (And.intro hz1 hz2)))
  clear hi hz0 hz1 hz2
  go_enter Try.func71, Try.ntmps71
  go_wp2
  go_loopw [0, 12] (fun out i wr => ∃ (k : Nat) (ys : List Int), k ≤ m ∧ i = .int .i64 k ∧ Own wr B out ys ∧ Below B w wr ∧ B ≤ wr.heap.size ∧ Row64 wr h zs ∧ ys ++ (zs.drop k).flatMap (be size) = T) (fun _ i _ => m - (intOf i).toNat)
  case atStart => exact ⟨0, xs, Nat.zero_le _, rfl, HO.out, Below.refl _ _, hB, HR.out, ET.out.symm⟩
  case round =>
    obtain ⟨k, ys, hk, rfl, hown, hbel, hBr, hrow, hT2⟩ := hrel
    obtain ⟨wo, rfl⟩ : ∃ wo : World, wo = wr := ⟨_, rfl⟩
    have OW := Lib.hid hown
    have RW := Lib.hid hrow
    have TW := Lib.hid hT2
    clear hown hrow hT2
    by_cases hlt : k < m
    · have hkz : k < zs.length := by rw [← EM.out]; exact hlt
      have hcell := RW.out.cell hkz
      have hn := HZ.out (zs.getD k 0) (by simp only [List.getD, List.getElem?_eq_getElem hkz]; exact List.getElem_mem hkz)
      have TW2 := Lib.hid (show ys ++ (be size (zs.getD k 0) ++ (zs.drop (k + 1)).flatMap (be size)) = T by
        rw [← TW.out, List.drop_eq_getElem_cons hkz, List.flatMap_cons]; simp [List.getD, hkz])
      clear hkz
      generalize zs.getD k 0 = n at *
      obtain ⟨R, eR⟩ : ∃ R, R = (zs.drop (k + 1)).flatMap (be size) := ⟨_, rfl⟩
      rw [← eR] at TW2
      have ER := Lib.hid eR
      clear eR
      obtain ⟨hn0, hn1⟩ := hn
      go_wp2
      go_loopw [0, 9] (fun out b wi => ∃ (j : Nat) (us : List Int), j ≤ size ∧ b = .int .i64 ((j : Int) - 1) ∧ Own wi B out us ∧ Below B w wi ∧ B ≤ wi.heap.size ∧ Row64 wi h zs ∧ us ++ (be j n ++ R) = T) (fun _ b _ => (intOf b + 1).toNat)
      case atStart => exact ⟨size, ys, Nat.le_refl _, rfl, OW.out, hbel, hBr, RW.out, TW2.out⟩
      case round =>
        obtain ⟨j, us, hj, rfl, hown, hbel2, hBr2, hrow, hT3⟩ := hrel
        have hlen : us.length ≤ 132 := by
          have := congrArg List.length hT3
          simp only [List.length_append] at this
          omega
        have OW2 := Lib.hid hown
        have RW2 := Lib.hid hrow
        have TW3 := Lib.hid hT3
        clear hown hrow hT3
        cases j with
        | zero =>
          go_wp2
          go_roundw
          case rel =>
            refine ⟨k + 1, us, by omega, by go_num, OW2.out, hbel2, hBr2, RW2.out, ?_⟩
            have := TW3.out
            simp only [be, List.nil_append] at this
            rw [← ER.out]; exact this
          case measure => simp [intOf]; omega
        | succ j =>
          have e1 : ((j + 1 : Nat) : Int) - 1 = (j : Int) := by omega
          rw [e1]
          clear e1
          go_wp2_with (at_builtin; refine wpList_append_own_at _ rfl (.tmp 22) (.tmp 28) 35 rfl B 5 i0 (.int .u8 0) 1 1 Try.underlying35 HI.out.1 HI.out.2.1 HI.out.2.2.1 HI.out.2.2.2 rfl (by decide) u0 us.length (us.map (Value.int .u8)) rfl (World.ownsRow.alloc OW2.out _) ⟨wr.heap.size, 0, none⟩ 1 1 [.int .u8 (n / 2 ^ (8 * j) % 256)] rfl rfl (cell_one_new _ _ _) (by intro u hu; simp at hu; subst hu; rfl) (by unfold maxLen; omega) (by omega) (by simp; omega) ?_; intro v1 w1 hown1 hgrow1 hnil1 hat1; have R := Lib.hid (own_step hbel2 hBr2 OW2.out RW2.out hown1 hgrow1); clear hown1 hgrow1 hnil1 hat1)
          go_roundw
          case rel =>
            refine ⟨j, us ++ [n / 2 ^ (8 * j) % 256], by omega, by go_num, R.out.1, R.out.2.1, R.out.2.2.2, R.out.2.2.1, ?_⟩
            rw [← TW3.out, List.append_assoc]
            simp only [be, List.cons_append, List.nil_append]
            rw [show (256 : Int) ^ j = 2 ^ (8 * j) by rw [show (256 : Int) = 2 ^ 8 by decide, ← Int.pow_mul]]
          case measure => simp [intOf]
    · have hkm : k = m := by omega
      subst hkm
      have hz3 : zs.drop k = [] := List.drop_of_length_le (by rw [← EM.out]; exact Nat.le_refl _)
      have hyT : ys = T := by have := TW.out; rw [hz3] at this; simpa using this
      have HY := Lib.hid hyT
      clear hyT hz3
      go_wp2
      go_ret
      exact ⟨u0, rfl, by rw [← HY.out]; exact OW.out, hbel⟩


theorem set_last (k : Nat) (d : Int) (bs : List Int) : ((List.replicate (k + 1) (0 : Int) ++ bs).map (Value.int .u8)).set k (.int .u8 d) = (List.replicate k (0 : Int) ++ d :: bs).map (Value.int .u8) := by
  induction k with
  | zero => simp [List.replicate]
  | succ k ih =>
    rw [List.replicate_succ, List.cons_append, List.map_cons, List.set_cons_succ, ih]
    simp [List.replicate_succ]

/-- What the document's writing of a number keeps in its rounds: j bytes are yet to be written. -/
def PutRel (w : World) (B : Nat) (v : Value) (xs : List Int) (x : Int) (n j : Nat) (wr : World) : Prop :=
  wr.ownsRow w.heap.size 5 1 (.slice (some ⟨w.heap.size, 0, none⟩) n n) n ((List.replicate j (0 : Int) ++ be (n - j) x).map (Value.int .u8)) ∧ Own wr B v xs ∧ Below B w wr ∧ w.heap.size ≤ wr.heap.size

theorem put_start {w w1 : World} {B : Nat} {v : Value} {xs : List Int} {x : Int} {n : Nat} (hown : Own w B v xs) (hB : B ≤ w.heap.size)
    (h1 : w1.ownsRow w.heap.size 5 1 (.slice (some ⟨w.heap.size, 0, none⟩) n n) n (madeCells (Value.int .u8 0).cells (n * 1)).toList) (h2 : w.grownBy w1 none) : PutRel w B v xs x n n w1 := by
  refine ⟨?_, World.ownsRow.kept hown h2 ?_, (Below.refl B w).grown h2 hB (by intro k hk; cases hk), h2.size⟩
  · have e : (Value.int IntKind.u8 0).cells = #[.int .u8 0] := rfl
    rw [e, toList_madeCells_one, Nat.mul_one] at h1
    simpa [be] using h1
  · cases e : v.ownBlock with
    | none => exact .inl rfl
    | some b => exact .inr (by simp)

theorem put_round {w wr : World} {B : Nat} {v : Value} {xs : List Int} {x : Int} {n j : Nat} (hown0 : Own w B v xs) (hB : B ≤ w.heap.size) (hj : j < n) (h : PutRel w B v xs x n (j + 1) wr) :
    PutRel w B v xs x n j (wr.setCell ⟨w.heap.size, j, none⟩ (.int .u8 (x / 256 ^ (n - (j + 1)) % 256))) := by
  obtain ⟨h1, h2, h3, h4⟩ := h
  obtain ⟨s1, s2⟩ := World.ownsRow.stored h1 j (.int .u8 (x / 256 ^ (n - (j + 1)) % 256))
  refine ⟨?_, World.ownsRow.kept h2 s2 ?_, h3.grown s2 (by omega) (by intro k hk; simp at hk; omega), by have := s2.size; omega⟩
  · rw [set_last] at s1
    have e : n - j = (n - (j + 1)) + 1 := by omega
    rw [e]; exact s1
  · cases e : v.ownBlock with
    | none => exact .inl rfl
    | some b =>
      refine .inr ?_
      have := (World.ownsRow.lt hown0 b e).2
      intro he
      simp at he
      omega

set_option maxHeartbeats 1000000 in
theorem put_any (B : Nat) (v : Value) (xs : List Int) (x : Int) (n : Nat) (w : World) (hown : Own w B v xs) (hB : B ≤ w.heap.size)
    (hn : n ≤ 8) (hx : xs.length ≤ 100) (hx0 : 0 ≤ x) (hx1 : x ≤ 18446744073709551615) :
    Calls Try.prog 56 #[v, .int .u64 x, .int .i64 n] w (GivesRow B (xs ++ be n x) w) := by
  obtain ⟨i0, hi, hz0, hz1, hz2⟩ := info_parts info5
  have HI := Lib.hid (And.intro hi (And.intro hz0 (And.intro hz1 hz2)))
  clear hi hz0 hz1 hz2
  have HO := Lib.hid hown
  clear hown
  go_enter Try.func56, Try.ntmps56
  go_wp2_with (first | (at_make; refine wpList_make_full _ rfl (.tmp 9) (.tmp 9) 35 rfl w.heap.size 5 i0 (.int .u8 0) 1 Try.underlying35 HI.out.1 HI.out.2.1 HI.out.2.2.1 .i64 .i64 n n n rfl rfl rfl rfl (by rw [HI.out.2.2.2]; omega) (by unfold maxLen; omega) (Nat.le_refl _) ?_; intro w1 hown1 hg1; have P0 := Lib.hid (put_start (x := x) HO.out hB hown1 hg1); clear hown1 hg1))
  go_loopw [1, 8] (fun y i wr => ∃ j : Nat, j ≤ n ∧ i = .int .i64 ((j : Int) - 1) ∧ y = .int .u64 (x / 256 ^ (n - j)) ∧ PutRel w B v xs x n j wr) (fun _ i _ => (intOf i + 1).toNat)
  case atStart => exact ⟨n, Nat.le_refl _, rfl, by simp, P0.out⟩
  case round =>
    obtain ⟨j, hj, rfl, rfl, hP⟩ := hrel
    have HP := Lib.hid hP
    clear hP
    cases j with
    | zero =>
      have hsz := HP.out.2.2.2
      go_wp2_with (at_builtin; refine wpList_append_own_at _ rfl (.tmp 25) (.tmp 26) 35 rfl B 5 i0 (.int .u8 0) 1 1 Try.underlying35 HI.out.1 HI.out.2.1 HI.out.2.2.1 HI.out.2.2.2 rfl (by decide) v xs.length (xs.map (Value.int .u8)) rfl HP.out.2.1 ⟨w.heap.size, 0, none⟩ n n ((be n x).map (Value.int .u8)) rfl (by simp [be_length]) (World.ownsRow.cells HP.out.1 (g := w.heap.size) rfl) (ints_oneCell _ _) (by unfold maxLen; omega) (by omega) (by omega) ?_; intro v1 w2 hown1 hgrow1 hnil1 hat1; have HR := Lib.hid (And.intro hown1 hgrow1); clear hown1 hgrow1 hnil1 hat1)
      go_ret
      refine ⟨v1, rfl, ?_, HP.out.2.2.1.grown HR.out.2 (by omega) (fun k hk => (World.ownsRow.lt HP.out.2.1 k hk).1)⟩
      have := HR.out.1
      unfold Own
      simpa [be_length] using this
    | succ j =>
      have e1 : ((j + 1 : Nat) : Int) - 1 = (j : Int) := by omega
      rw [e1]
      clear e1
      have hc : wr.cell? ⟨w.heap.size, j, none⟩ = some (.int .u8 0) := by
        rw [World.ownsRow.cellAt HP.out.1 j (by omega), List.map_append, List.getElem?_append_left (by simp), List.map_replicate, List.getElem?_replicate]
        simp
      have hf : wr.frozen? ⟨w.heap.size, j, none⟩ = false := World.ownsRow.frozenAt HP.out.1 j
      have HQ := Lib.hid (put_round HO.out hB (by omega) HP.out)
      have ey : x / 256 ^ (n - j) = x / 256 ^ (n - (j + 1)) / 256 := by
        rw [show n - j = n - (j + 1) + 1 by omega, Int.pow_succ, Int.ediv_ediv_of_nonneg (Int.le_of_lt (pow_pos256 _))]
      have EY := Lib.hid ey
      clear ey
      have hy0 : 0 ≤ x / 256 ^ (n - (j + 1)) := Int.ediv_nonneg hx0 (Int.le_of_lt (pow_pos256 _))
      have hy1 : x / 256 ^ (n - (j + 1)) ≤ 18446744073709551615 := Int.le_trans (Int.ediv_le_self _ hx0) hx1
      generalize x / 256 ^ (n - (j + 1)) = y at *
      go_wp2
      go_roundw
      case rel => exact ⟨j, by omega, by go_num, by rw [EY.out], HQ.out⟩
      case measure => simp [intOf]

end Go.Proofs.Ytfknefpfekjnnaa
