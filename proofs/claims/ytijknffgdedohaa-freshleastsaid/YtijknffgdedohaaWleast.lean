/- FreshLeast's walk. -/
import Derived.Test.YtijknffgdedohaaAlive
import Derived.Test.YtijknffgdedohaaRef
import Derived.Test.YtijknffgdedohaaOpen
import Derived.Test.YtijknffgdedohaaWnone
import Derived.BigQuiet
import Derived.Maps.OwnSet
namespace Go.Proofs.Ytijknffgdedohaa
open Go.RowKit Go.Maps Go.WideMaps

/-- Of the first so many: one is fresh; one is fresh and the best. -/
structure Seen (h life : Int) (L : List Sm) (y : Sm) (j : Nat) (t s : Bool) : Prop where
  s : s = true ↔ ∃ q ∈ L.take j, isFresh h life q = true
  t : t = true ↔ ∃ q ∈ L.take j, isFresh h life q = true ∧ q = y
theorem mem_take_snoc {L : List Sm} {j : Nat} {x : Sm} (hx : L[j]? = some x) (q : Sm) : q ∈ L.take (j + 1) ↔ q ∈ L.take j ∨ q = x := by
  rw [take_snoc hx]; simp
theorem Seen.skip {h life : Int} {L : List Sm} {y x : Sm} {j : Nat} {t s : Bool} (e : Seen h life L y j t s) (hx : L[j]? = some x) (hf : isFresh h life x = false) : Seen h life L y (j + 1) t s := by
  constructor
  · rw [e.s]
    constructor
    · rintro ⟨q, hq, hfq⟩
      exact ⟨q, (mem_take_snoc hx q).2 (.inl hq), hfq⟩
    · rintro ⟨q, hq, hfq⟩
      rcases (mem_take_snoc hx q).1 hq with h1 | rfl
      · exact ⟨q, h1, hfq⟩
      · rw [hf] at hfq; cases hfq
  · rw [e.t]
    constructor
    · rintro ⟨q, hq, hfq⟩
      exact ⟨q, (mem_take_snoc hx q).2 (.inl hq), hfq⟩
    · rintro ⟨q, hq, hfq, he⟩
      rcases (mem_take_snoc hx q).1 hq with h1 | h1
      · exact ⟨q, h1, hfq, he⟩
      · rw [h1, hf] at hfq; cases hfq
theorem Seen.next {h life : Int} {L : List Sm} {y x : Sm} {j : Nat} {t s t' : Bool} (e : Seen h life L y j t s) (hx : L[j]? = some x) (hf : isFresh h life x = true) (ht : t' = true ↔ t = true ∨ x = y) : Seen h life L y (j + 1) t' true := by
  constructor
  · simp only [true_iff]
    exact ⟨x, (mem_take_snoc hx x).2 (.inr rfl), hf⟩
  · rw [ht, e.t]
    constructor
    · rintro (⟨q, hq, hfq⟩ | rfl)
      · exact ⟨q, (mem_take_snoc hx q).2 (.inl hq), hfq⟩
      · exact ⟨x, (mem_take_snoc hx x).2 (.inr rfl), hf, rfl⟩
    · rintro ⟨q, hq, hfq, he⟩
      rcases (mem_take_snoc hx q).1 hq with h1 | h1
      · exact .inl ⟨q, h1, hfq, he⟩
      · exact .inr (h1.symm.trans he)
theorem Seen.all {h life : Int} {L : List Sm} {t s : Bool} (e : Seen h life L (bestSm (bestOf h life L)) L.length t s) : s = (bestOf h life L).isSome ∧ t = (bestOf h life L).isSome := by
  cases hb : bestOf h life L with
  | none =>
    rw [hb] at e
    have hn := best_none hb
    refine ⟨?_, ?_⟩
    · cases s with
      | false => rfl
      | true =>
        obtain ⟨q, hq, hf⟩ := e.s.1 rfl
        rw [hn q (List.mem_of_mem_take hq)] at hf
        cases hf
    · cases t with
      | false => rfl
      | true =>
        obtain ⟨q, hq, hf, _⟩ := e.t.1 rfl
        rw [hn q (List.mem_of_mem_take hq)] at hf
        cases hf
  | some y =>
    rw [hb] at e
    obtain ⟨m1, m2, _⟩ := best_some hb
    have hm : y ∈ L.take L.length := by rw [List.take_length]; exact m1
    exact ⟨e.s.2 ⟨y, hm, m2⟩, e.t.2 ⟨y, hm, m2, rfl⟩⟩

theorem sm_ext {x y : Sm} (h0 : x.o = y.o) (h1 : x.d = y.d) (h2 : x.t = y.t) (h3 : x.s = y.s) : x = y := by
  cases x; cases y; simp_all
theorem wpList_insert_own_g {H : Type} {P : Program} (w : World) {ops : Array Oper} {rest : List Oper} {o : Oper} {a : Act} {Q : Exit → Act → World → Prop}
    (hw : Region.wanted o (yielded ops a.tmps) = true) (m x v : Operand) (t : TypeId) (hop : o.op = Op.insert t m x v)
    (k e : TypeId) (K : Keyed P k) (ht : P.underlying t = some (.map k e)) (R : Value → Option (DataW H × List MemPlace)) (b n : Nat) (D : DataW H)
    (hm : a.eval m = .map (some b)) (hown : w.ownsMap P k R b n D) (hn : n < maxLen) (key val : Value) (kl : Lit) (hx : a.eval x = key) (hv : a.eval v = val) (hkey : keyOf P k key = some kl)
    (d : DataW H) (ps : List MemPlace) (hval : R val = some (d, ps))
    (hK : ∀ w', w'.ownsMap P k R b (n + 1) (D.put kl d) → w.grownBy w' (some b) → wpList P ops Q rest (a.put o.dst undef) w') :
    wpList P ops Q (o :: rest) a w := by
  refine wpList_step fun K' hK' => ?_
  rw [if_pos hw]
  obtain ⟨w', hrun, r1, r2⟩ := hown.update K ht hn hkey hval
  unfold Oper.wp
  simp [execOp, hop, hm, hx, hv, hrun, Result.andThen]
  exact hK' _ _ (hK w' r1 r2)
theorem zero2 (w : World) : (zeroValue 2).run Try.prog w = .ok (.int .i64 0) w := by kernel_rfl
/-- The map of two numbers: of true c, of false 0. -/
def twoD (c : Int) : DataW Unit := ((DataW.map []).put (.bool true) (.lit (.int .i64 c))).put (.bool false) (.lit (.int .i64 0))
theorem two_true (c : Int) : (twoD c).atKey (.bool true) (.lit (.int .i64 0)) = .lit (.int .i64 c) := by rfl
theorem two_false (c : Int) : (twoD c).atKey (.bool false) (.lit (.int .i64 0)) = .lit (.int .i64 0) := by rfl
theorem key_bool (x : Bool) : keyOf Try.prog 4 (.bool x) = some (.bool x) := by
  cases x <;> kernel_rfl
theorem two_look {w : World} {b n : Nat} {c : Int} (h : w.ownsMap Try.prog 4 (plainElem Try.prog 2) b n (twoD c)) (ok : Bool) :
    (Instr.lookup 40 (.map (some b)) (.bool ok) false).run Try.prog w = .ok (.int .i64 (if ok = true then c else 0)) w := by
  obtain ⟨v, hrun, hat, _⟩ := h.lookup_int (bool_keyed Try.underlying4) Try.underlying40 Try.underlying2 (zero2 w) (key_bool ok)
  rw [hrun]
  cases ok with
  | true =>
    rw [two_true] at hat
    injection hat with hat
    injection hat with _ hat
    rw [hat]; rfl
  | false =>
    rw [two_false] at hat
    injection hat with hat
    injection hat with _ hat
    rw [← hat]; rfl
theorem i64_wf {c : Int} (h1 : -9223372036854775808 ≤ c) (h2 : c ≤ 9223372036854775807) : (Lit.int .i64 c).wf = true := by
  simp [Lit.wf, show IntKind.i64.min = -9223372036854775808 from rfl, show IntKind.i64.max = 9223372036854775807 from rfl]; omega

theorem map_end {w wr w6 w7 w8 : World} (h0 : Below w.heap.size w wr) (hg6 : (wr.alloc (.map #[] 0)).grownBy w6 (some wr.heap.size)) (hg7 : w6.grownBy w7 (some wr.heap.size)) (hb8 : Below w7.heap.size w7 w8) : Below w.heap.size w w8 := by
  have h1 := bel_trans h0 (bel_box wr (.map #[] 0))
  have h2 := h1.grown hg6 h1.size (fun k hk => by injection hk with hk; have := h0.size; omega)
  have h3 := h2.grown hg7 h2.size (fun k hk => by injection hk with hk; have := h0.size; omega)
  exact h3.trans (hb8.mono h3.size)

set_option maxRecDepth 100000 in
set_option maxHeartbeats 8000000 in
theorem walk_least (A : Option Addr) (len cap : Nat) (a b c : Int) (w : World) (hz : ActsIn w A len cap) (a1 : -9223372036854775808 ≤ a) (a2 : a ≤ 9223372036854775807) (c1 : -9223372036854775808 ≤ c) (c2 : c ≤ 9223372036854775807) :
    Calls Try.prog 5 #[.slice A len cap, .agg #[.int .i64 a, .int .i64 b, .int .i64 c]] w fun e w' => e = .returned (.bool true) ∧ Below w.heap.size w w' := by
  obtain ⟨l1, l2, l, hl, hin, hsm, hnil⟩ := hz
  have m1 : cap ≤ 9223372036854775807 := by unfold maxLen at l2; omega
  have Z := Lib.hid (And.intro hl (And.intro hin (And.intro hsm l2)))
  clear hl hin hsm l2
  obtain ⟨W0, hW0⟩ : ∃ W0, W0 = w.alloc (.cells #[.int .i64 a, .int .i64 b, .int .i64 c] 23) := ⟨_, rfl⟩
  have H0 : Hid (Nums w w.heap.size a b c W0) := Lib.hid ⟨by rw [hW0]; exact heap_alloc_new w _, by rw [hW0]; exact bel_box _ _⟩
  have hsz : W0.heap.size = w.heap.size + 1 := by rw [hW0]; simp
  go_enter Try.func5, Try.ntmps5
  go_wp2_with fail
  rw [← hW0]
  clear hW0
  refine (snew_any W0).mono ?_
  rintro e w1 ⟨rfl, hs1, hb1, _⟩
  obtain ⟨sb, hsb⟩ : ∃ sb, sb = W0.heap.size + 1 := ⟨_, rfl⟩
  rw [← hsb] at hs1 ⊢
  have H1 := Lib.hid (And.intro hs1 (H0.out.later hb1))
  clear hs1 hb1 hsb H0
  go_wp2_with fail
  refine (alive_any _).mono ?_
  rintro e w2 ⟨rfl, hb2⟩
  have H2 := Lib.hid (And.intro (H1.out.1.below hb2) (H1.out.2.later hb2))
  clear hb2 H1
  by_cases q1 : 100 < len
  · go_wp2_with fail
    refine (alive_any _).mono ?_
    rintro e w3 ⟨rfl, hb3⟩
    have L3 := Lib.hid (H2.out.2.later hb3)
    clear hb3 H2
    go_wp2
    go_ret
    exact ⟨rfl, L3.out.bel⟩
  have q2 : len ≤ 100 := by omega
  clear q1
  go_wp2_with fail
  go_loopw [30] (fun v30 wr => ∃ (i : Nat), i ≤ len ∧ v30 = .int .i64 (i : Int) ∧ Hid (St wr W0.heap.size sb i (last8 (l.take i)) ∧ Nums w w.heap.size a b c wr)) (fun s _ => len - (intOf s).toNat)
  case atStart => exact ⟨0, Nat.zero_le _, rfl, Lib.hid H2.out⟩
  case round =>
    clear H2
    obtain ⟨i, hi, rfl, R⟩ := hrel
    by_cases hil : i < len
    · obtain ⟨p, hp⟩ : ∃ p, l[i]? = some p := ⟨_, List.getElem?_eq_getElem (by have := Z.out.1; omega)⟩
      obtain ⟨g, o, rfl, _⟩ := Z.out.2.2.1 i p hp
      obtain ⟨y0, y1, y2, y3⟩ := (Z.out.2.2.1.later R.out.2.bel).at4 hp
      obtain ⟨W, hW⟩ : ∃ W, W = wr.alloc (.cells p.arr 28) := ⟨_, rfl⟩
      have hbW : Below wr.heap.size wr W := by rw [hW]; exact bel_box _ _
      have S0 := Lib.hid (And.intro (R.out.1.below hbW) (R.out.2.later hbW))
      clear hbW R
      go_wp2_with fail
      rw [← hW]
      clear hW y0 y1 y2 y3
      refine (sadd_any p.o p.d p.t p.s S0.out.1 (by omega)).mono ?_
      rintro e w5 ⟨rfl, hs5, hb5⟩
      rw [push8_last, ← take_snoc hp] at hs5
      have S5 := Lib.hid (And.intro hs5 (S0.out.2.below hb5 (by omega) (by omega)))
      clear hs5 hb5 S0
      go_wp2
      refine ⟨⟨i + 1, by omega, by go_num, Lib.hid S5.out⟩, ?_⟩
      simp [intOf]; omega
    · have hiE : i = len := by omega
      subst hiE
      have eT : l.take i = l := List.take_of_length_le (by have := Z.out.1; omega)
      rw [eT] at R
      have hL8 : ∀ p ∈ last8 l, p.In := fun p hp => Z.out.2.1 p (mem_last8 hp)
      have BB := best_any (some ⟨sb, 0, none⟩) a b c (last8 l) wr a1 a2 c1 c2 hL8 (.inr ⟨_, _, _, rfl, R.out.1⟩)
      obtain ⟨y, hy⟩ : ∃ y, y = bestSm (bestOf a b (last8 l)) := ⟨_, rfl⟩
      obtain ⟨off, hoff⟩ : ∃ off, off = bestNow (bestOf a b (last8 l)) c := ⟨_, rfl⟩
      obtain ⟨ok, hok⟩ : ∃ ok, ok = (bestOf a b (last8 l)).isSome := ⟨_, rfl⟩
      rw [← hy, ← hoff, ← hok] at BB
      have BB := Lib.hid BB
      have HY := Lib.hid (And.intro hy (And.intro hoff hok))
      have hyi : y.In := by rw [hy]; exact bestSm_in hL8
      clear hy hoff hok
      have HB := Lib.hid (And.intro hL8 eT)
      obtain ⟨k0, k1, k2⟩ := R.out.2.cells
      clear hL8 eT
      go_wp2_with fail
      refine BB.out.mono ?_
      rintro e w3 ⟨rfl, hb3⟩
      obtain ⟨W3, hW3⟩ : ∃ W3, W3 = w3.alloc (.cells #[.int .i64 y.o, .int .i64 y.d, .int .i64 y.t, .int .i64 y.s] 28) := ⟨_, rfl⟩
      have hB3 : Below wr.heap.size wr W3 := by rw [hW3]; exact bel_trans hb3 (bel_box _ _)
      have H3 := Lib.hid (And.intro (show W3.heap[w3.heap.size]? = some (.cells y.arr 28 (0, 0)) by rw [hW3]; exact heap_alloc_new w3 _) (R.out.2.later hB3))
      obtain ⟨ab, hab⟩ : ∃ ab, ab = w3.heap.size := ⟨_, rfl⟩
      rw [← hab] at H3
      clear hb3 hB3 BB R k0 k1 k2
      by_cases hi0 : i = 0
      · subst hi0
        cases A with
        | none =>
          obtain rfl := hnil rfl
          go_wp2_with fail
          rw [← hW3, ← hab]
          clear hW3 hab
          have hl0 : l = [] := List.eq_nil_of_length_eq_zero Z.out.1
          have hok : ok = false := by rw [HY.out.2.2, hl0]; rfl
          have hoff : off = nowOf y.o y.s 0 := by rw [HY.out.2.1, HY.out.1, hl0]; rfl
          subst hok
          clear hl0
          go_loopw [11, 12, 57] (fun v11 v12 v57 wr => v11 = .bool false ∧ v12 = .bool false ∧ v57 = .int .i64 0 ∧ Hid (Below W3.heap.size W3 wr)) (fun _ _ _ _ => 0)
          case atStart => exact ⟨rfl, rfl, rfl, Lib.hid (Below.refl _ _)⟩
          case round =>
            obtain ⟨rfl, rfl, rfl, RK⟩ := hrel
            have W5 := Lib.hid (H3.out.2.later RK.out)
            obtain ⟨⟨z0, z1, z2, z3⟩, _⟩ := cells4 ((RK.out.block _ (heap_lt H3.out.1)).trans H3.out.1)
            obtain ⟨_, _, k2⟩ := (W5.out.later (bel_box wr (.map #[] 0))).cells
            have HM0 : Hid ((wr.alloc (.map #[] 0)).ownsMap Try.prog 4 (plainElem (H := Unit) Try.prog 2) wr.heap.size 0 (.map [])) := Lib.hid (World.ownsMap_made wr Try.prog 4 _)
            have hmm := @run_makeMap Try.prog
            have F18 : Hid (∀ W, Calls Try.prog 18 #[.agg #[.int .i64 y.o, .int .i64 y.d, .int .i64 y.t, .int .i64 y.s], .int .i64 0] W fun e w' => e = .returned (.int .i64 off) ∧ Below W.heap.size W w') := Lib.hid fun W => by
              rw [hoff]
              exact rnow_any y.o y.d y.t y.s _ W hyi.o1 hyi.o2 hyi.s1 hyi.s2 (by omega) (by omega)
            clear hoff
            go_wp2_with (first
              | (refine wpList_insert_own_g _ rfl _ _ _ 40 rfl 4 2 (bool_keyed Try.underlying4) Try.underlying40 (plainElem (H := Unit) Try.prog 2) wr.heap.size 1 _ rfl HM1.out (by decide) _ _ (.bool false) rfl rfl (key_bool false) _ [] (plainElem_int Try.underlying2 (by decide)) ?_; intro w7 hm7 hg7; have lk : (Instr.lookup 40 (.map (some wr.heap.size)) (.bool false) false).run Try.prog w7 = .ok (.int .i64 0) w7 := two_look (c := c) hm7 false; have HG7 := Lib.hid hg7; clear hm7 hg7)
              | (refine wpList_insert_own_g _ rfl _ _ _ 40 rfl 4 2 (bool_keyed Try.underlying4) Try.underlying40 (plainElem (H := Unit) Try.prog 2) wr.heap.size 0 _ rfl HM0.out (by decide) _ _ (.bool true) rfl rfl (key_bool true) _ [] (plainElem_int Try.underlying2 (i64_wf c1 c2)) ?_; intro w6 hm6 hg6; have HM1 := Lib.hid hm6; have HG6 := Lib.hid hg6; clear hm6 hg6)
              | (go_at_call 18; refine (F18.out _).mono ?_; rintro e w8 ⟨rfl, hb8⟩; have HB8 := Lib.hid hb8; clear hb8))
            go_ret
            exact ⟨rfl, map_end W5.out.bel HG6.out HG7.out HB8.out⟩
        | some x =>
          go_wp2_with fail
          rw [← hW3, ← hab]
          clear hW3 hab
          have hl0 : l = [] := List.eq_nil_of_length_eq_zero Z.out.1
          have hok : ok = false := by rw [HY.out.2.2, hl0]; rfl
          have hoff : off = nowOf y.o y.s 0 := by rw [HY.out.2.1, HY.out.1, hl0]; rfl
          subst hok
          clear hl0
          go_loopw [11, 12, 57] (fun v11 v12 v57 wr => v11 = .bool false ∧ v12 = .bool false ∧ v57 = .int .i64 0 ∧ Hid (Below W3.heap.size W3 wr)) (fun _ _ _ _ => 0)
          case atStart => exact ⟨rfl, rfl, rfl, Lib.hid (Below.refl _ _)⟩
          case round =>
            obtain ⟨rfl, rfl, rfl, RK⟩ := hrel
            have W5 := Lib.hid (H3.out.2.later RK.out)
            obtain ⟨⟨z0, z1, z2, z3⟩, _⟩ := cells4 ((RK.out.block _ (heap_lt H3.out.1)).trans H3.out.1)
            obtain ⟨_, _, k2⟩ := (W5.out.later (bel_box wr (.map #[] 0))).cells
            have HM0 : Hid ((wr.alloc (.map #[] 0)).ownsMap Try.prog 4 (plainElem (H := Unit) Try.prog 2) wr.heap.size 0 (.map [])) := Lib.hid (World.ownsMap_made wr Try.prog 4 _)
            have hmm := @run_makeMap Try.prog
            have F18 : Hid (∀ W, Calls Try.prog 18 #[.agg #[.int .i64 y.o, .int .i64 y.d, .int .i64 y.t, .int .i64 y.s], .int .i64 0] W fun e w' => e = .returned (.int .i64 off) ∧ Below W.heap.size W w') := Lib.hid fun W => by
              rw [hoff]
              exact rnow_any y.o y.d y.t y.s _ W hyi.o1 hyi.o2 hyi.s1 hyi.s2 (by omega) (by omega)
            clear hoff
            go_wp2_with (first
              | (refine wpList_insert_own_g _ rfl _ _ _ 40 rfl 4 2 (bool_keyed Try.underlying4) Try.underlying40 (plainElem (H := Unit) Try.prog 2) wr.heap.size 1 _ rfl HM1.out (by decide) _ _ (.bool false) rfl rfl (key_bool false) _ [] (plainElem_int Try.underlying2 (by decide)) ?_; intro w7 hm7 hg7; have lk : (Instr.lookup 40 (.map (some wr.heap.size)) (.bool false) false).run Try.prog w7 = .ok (.int .i64 0) w7 := two_look (c := c) hm7 false; have HG7 := Lib.hid hg7; clear hm7 hg7)
              | (refine wpList_insert_own_g _ rfl _ _ _ 40 rfl 4 2 (bool_keyed Try.underlying4) Try.underlying40 (plainElem (H := Unit) Try.prog 2) wr.heap.size 0 _ rfl HM0.out (by decide) _ _ (.bool true) rfl rfl (key_bool true) _ [] (plainElem_int Try.underlying2 (i64_wf c1 c2)) ?_; intro w6 hm6 hg6; have HM1 := Lib.hid hm6; have HG6 := Lib.hid hg6; clear hm6 hg6)
              | (go_at_call 18; refine (F18.out _).mono ?_; rintro e w8 ⟨rfl, hb8⟩; have HB8 := Lib.hid hb8; clear hb8))
            go_ret
            exact ⟨rfl, map_end W5.out.bel HG6.out HG7.out HB8.out⟩
      obtain ⟨g, o, rfl⟩ : ∃ g o, A = some ⟨g, o, none⟩ := by
        obtain ⟨p, hp⟩ : ∃ p, l[0]? = some p := ⟨_, List.getElem?_eq_getElem (by have := Z.out.1; omega)⟩
        obtain ⟨g, o, e, _⟩ := Z.out.2.2.1 0 p hp
        exact ⟨g, o, e⟩
      obtain ⟨lo, hlo⟩ : ∃ lo : Nat, lo = i - 8 := ⟨_, rfl⟩
      have lo1 : lo < i := by omega
      have lo2 : (if (8 : Int) < (i : Int) then (i : Int) - 8 else 0) = (lo : Int) := by split <;> omega
      have lo3 : (lo : Int) ≤ (i : Int) := by omega
      have lo4 : (i : Int) ≤ (cap : Int) := by omega
      have lo5 : (lo : Int) ≤ (cap : Int) := by omega
      have lo6 : (0 : Int) ≤ (lo : Int) := by omega
      have eL : last8 l = l.drop lo := by unfold last8; rw [hlo, Z.out.1]
      have HLo := Lib.hid eL
      clear hlo eL
      go_wp2_with fail
      rw [← hW3, ← hab]
      clear hW3 hab
      go_loopw [11, 12, 57] (fun v11 v12 v57 wr => ∃ (j : Nat) (t s : Bool), j ≤ i - lo ∧ v11 = .bool t ∧ v12 = .bool s ∧ v57 = .int .i64 (j : Int) ∧ Hid (Seen a b (last8 l) y j t s ∧ Below W3.heap.size W3 wr)) (fun _ _ s _ => i - lo - (intOf s).toNat)
      case atStart => exact ⟨0, false, false, Nat.zero_le _, rfl, rfl, rfl, Lib.hid ⟨⟨by simp, by simp⟩, Below.refl _ _⟩⟩
      case round =>
        obtain ⟨j, t, s, hj, rfl, rfl, rfl, RK⟩ := hrel
        by_cases hjn : j < i - lo
        · obtain ⟨x, hx⟩ : ∃ x, (l.drop lo)[j]? = some x := ⟨_, List.getElem?_eq_getElem (by rw [List.length_drop]; have := Z.out.1; omega)⟩
          have hx' : (last8 l)[j]? = some x := by rw [HLo.out]; exact hx
          have hxi := HB.out.1 x (List.mem_of_getElem? hx')
          obtain ⟨u0, u1, u2, u3⟩ := ((Z.out.2.2.1.later (bel_trans H3.out.2.bel RK.out.2)).drop lo).at4 hx
          obtain ⟨W4, hW4⟩ : ∃ W4, W4 = wr.alloc (.cells #[.int .i64 x.o, .int .i64 x.d, .int .i64 x.t, .int .i64 x.s] 28) := ⟨_, rfl⟩
          have hbW : Below W3.heap.size W3 W4 := by rw [hW4]; exact bel_trans RK.out.2 (bel_box _ _)
          have gX : W4.heap[wr.heap.size]? = some (.cells x.arr 28 (0, 0)) := by rw [hW4]; exact heap_alloc_new wr _
          obtain ⟨k0, k1, k2⟩ := (H3.out.2.later hbW).cells
          rw [hW4] at k0 k1 k2
          have b1 : (j : Int) < ((i - lo : Nat) : Int) := by omega
          have b2 : (0 : Int) ≤ (j : Int) := by omega
          have H4 := Lib.hid (And.intro hbW gX)
          have HX := Lib.hid hx'
          clear hx hx' hbW gX
          obtain ⟨xb, hxb⟩ : ∃ xb, xb = wr.heap.size := ⟨_, rfl⟩
          rw [← hxb] at H4
          by_cases hf : isFresh a b x = true
          · have hbst : ok = true ∧ (x.d < y.d) = False := by
              rw [HY.out.1, HY.out.2.2]
              cases hB : bestOf a b (last8 l) with
              | none =>
                have := best_none hB x (List.mem_of_getElem? HX.out)
                rw [hf] at this
                cases this
              | some z =>
                have h3 := (best_some hB).2.2 x (List.mem_of_getElem? HX.out) hf
                rw [better_not] at h3
                refine ⟨rfl, ?_⟩
                simp only [bestSm, Option.getD_some, eq_iff_iff, iff_false]
                omega
            obtain ⟨rfl, hd⟩ := hbst
            have hd2 : ¬ x.d < y.d := by rw [hd]; simp
            clear hd
            go_wp2_with fail
            rw [← hW4, ← hxb]
            clear hW4 hxb k0 k1 k2 u0 u1 u2 u3
            refine (rfresh_any x.o x.d x.t x.s a b W4 hxi.t1 hxi.t2 a1 a2).mono ?_
            rw [show freshOf x.t a b = true from hf]
            rintro e w5 ⟨rfl, hb5⟩
            obtain ⟨⟨x0, x1, x2, x3⟩, _⟩ := cells4 ((hb5.block _ (heap_lt H4.out.2)).trans H4.out.2)
            obtain ⟨⟨z0, z1, z2, z3⟩, _⟩ := cells4 (((bel_trans H4.out.1 hb5).block _ (heap_lt H3.out.1)).trans H3.out.1)
            have H5 := Lib.hid (bel_trans H4.out.1 hb5)
            clear hb5
            cases t with
            | true =>
              go_wp2
              refine ⟨⟨j + 1, true, true, by omega, rfl, rfl, by go_num, Lib.hid ⟨RK.out.1.next HX.out hf (by simp), H5.out⟩⟩, ?_⟩
              simp [intOf]; omega
            | false =>
              by_cases hxy : x = y
              · subst hxy
                go_wp2
                refine ⟨⟨j + 1, true, true, by omega, rfl, rfl, by go_num, Lib.hid ⟨RK.out.1.next HX.out hf (by simp), H5.out⟩⟩, ?_⟩
                simp [intOf]; omega
              · go_wp2
                all_goals first
                  | (refine ⟨⟨j + 1, false, true, by omega, rfl, rfl, by go_num, Lib.hid ⟨RK.out.1.next HX.out hf (by simp [hxy]), H5.out⟩⟩, ?_⟩; simp [intOf]; omega)
                  | (exfalso; exact hxy (sm_ext (by assumption) (by assumption) (by assumption) (by assumption)))
          · go_wp2_with fail
            rw [← hW4, ← hxb]
            clear hW4 hxb k0 k1 k2 u0 u1 u2 u3
            refine (rfresh_any x.o x.d x.t x.s a b W4 hxi.t1 hxi.t2 a1 a2).mono ?_
            rw [show freshOf x.t a b = false by simpa [isFresh] using hf]
            rintro e w5 ⟨rfl, hb5⟩
            have H5 := Lib.hid (bel_trans H4.out.1 hb5)
            clear hb5
            go_wp2
            refine ⟨⟨j + 1, t, s, by omega, rfl, rfl, by go_num, Lib.hid ⟨RK.out.1.skip HX.out (by simpa using hf), H5.out⟩⟩, ?_⟩
            simp [intOf]; omega
        · have hjE : j = i - lo := by omega
          have hall := RK.out.1
          have hll : i - lo = (last8 l).length := by rw [HLo.out, List.length_drop, Z.out.1]
          rw [HY.out.1, hjE, hll] at hall
          obtain ⟨es, et⟩ := hall.all
          rw [← HY.out.2.2] at es et
          subst es et
          clear hall hll
          have hoff : off = nowOf y.o y.s (if t = true then c else 0) := by
            rw [HY.out.2.1, HY.out.1, HY.out.2.2]
            cases bestOf a b (last8 l) with
            | none => rfl
            | some z => rfl
          have W5 := Lib.hid (H3.out.2.later RK.out.2)
          obtain ⟨⟨z0, z1, z2, z3⟩, _⟩ := cells4 ((RK.out.2.block _ (heap_lt H3.out.1)).trans H3.out.1)
          obtain ⟨_, _, k2⟩ := (W5.out.later (bel_box wr (.map #[] 0))).cells
          have HM0 : Hid ((wr.alloc (.map #[] 0)).ownsMap Try.prog 4 (plainElem (H := Unit) Try.prog 2) wr.heap.size 0 (.map [])) := Lib.hid (World.ownsMap_made wr Try.prog 4 _)
          have hwr : w.heap.size ≤ wr.heap.size := W5.out.bel.size
          have hmm := @run_makeMap Try.prog
          have hbb : (t == t) = true := by cases t <;> rfl
          have F18 : Hid (∀ W, Calls Try.prog 18 #[.agg #[.int .i64 y.o, .int .i64 y.d, .int .i64 y.t, .int .i64 y.s], .int .i64 (if t = true then c else 0)] W fun e w' => e = .returned (.int .i64 off) ∧ Below W.heap.size W w') := Lib.hid fun W => by
            rw [hoff]
            exact rnow_any y.o y.d y.t y.s _ W hyi.o1 hyi.o2 hyi.s1 hyi.s2 (by split <;> omega) (by split <;> omega)
          clear hoff hjE
          go_wp2_with (first
            | (refine wpList_insert_own_g _ rfl _ _ _ 40 rfl 4 2 (bool_keyed Try.underlying4) Try.underlying40 (plainElem (H := Unit) Try.prog 2) wr.heap.size 1 _ rfl HM1.out (by decide) _ _ (.bool false) rfl rfl (key_bool false) _ [] (plainElem_int Try.underlying2 (by decide)) ?_; intro w7 hm7 hg7; have lk := two_look (c := c) hm7 t; have HG7 := Lib.hid hg7; clear hm7 hg7)
            | (refine wpList_insert_own_g _ rfl _ _ _ 40 rfl 4 2 (bool_keyed Try.underlying4) Try.underlying40 (plainElem (H := Unit) Try.prog 2) wr.heap.size 0 _ rfl HM0.out (by decide) _ _ (.bool true) rfl rfl (key_bool true) _ [] (plainElem_int Try.underlying2 (i64_wf c1 c2)) ?_; intro w6 hm6 hg6; have HM1 := Lib.hid hm6; have HG6 := Lib.hid hg6; clear hm6 hg6)
            | (go_at_call 18; refine (F18.out _).mono ?_; rintro e w8 ⟨rfl, hb8⟩; have HB8 := Lib.hid hb8; clear hb8))
          all_goals (
            go_ret
            exact ⟨rfl, map_end W5.out.bel HG6.out HG7.out HB8.out⟩)
end Go.Proofs.Ytijknffgdedohaa
