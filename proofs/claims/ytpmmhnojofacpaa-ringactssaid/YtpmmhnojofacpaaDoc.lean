/- The document's ring of texts: all since a Clear; the end of it; two lists held against one another. -/
import Derived.Test.YtpmmhnojofacpaaEnds
import Derived.Test.YtpmmhnojofacpaaRstr
import Derived.Laws.AppendOwnNone
namespace Go.Proofs.Ytpmmhnojofacpaa
open Go.RowKit

def strs (l : List ByteArray) : List Value := l.map Value.string
theorem strs_one (l : List ByteArray) : ∀ u ∈ strs l, u.oneCell' = true := fun u hu => by
  obtain ⟨x, _, rfl⟩ := List.mem_map.1 hu
  rfl
structure Doc (w : World) (base b m c : Nat) (v : Value) (l : List ByteArray) : Prop where
  blk : w.heap[b]? = some (.cells #[v, .int .i64 (m : Int), .int .i64 (c : Int)] 32 (0, 0))
  row : w.ownsRow base 9 1 v l.length (strs l)
  own : base ≤ b
  nil : l = [] → v = .slice none 0 0
section
variable {w w' : World} {base b m c : Nat} {v : Value} {l : List ByteArray}
theorem Doc.lt (h : Doc w base b m c v l) : b < w.heap.size := heap_lt h.blk
theorem Doc.facts (h : Doc w base b m c v l) : w.cell? ⟨b, 0, none⟩ = some v ∧ w.cell? ⟨b, 1, none⟩ = some (.int .i64 (m : Int)) ∧ w.cell? ⟨b, 2, none⟩ = some (.int .i64 (c : Int)) := by
  refine ⟨?_, ?_, ?_⟩
  all_goals (rw [cell_of_row _ _ _ _ _ _ h.blk]; rfl)
theorem Doc.apart (h : Doc w base b m c v l) : v.ownBlock ≠ some b := fun e => by
  obtain ⟨_, _, cur, hg⟩ := own_lt h.row e
  rw [h.blk] at hg
  injection hg with hg
  injection hg with _ ht _
  exact absurd ht (by decide)
theorem Doc.base_le (h : Doc w base b m c v l) : base ≤ w.heap.size := by have := h.own; have := h.lt; omega
theorem Doc.below {B : Nat} (h : Doc w base b m c v l) (hb : Below B w w') (hB : w.heap.size ≤ B) : Doc w' base b m c v l :=
  ⟨(hb.block b (by have := h.lt; omega)).trans h.blk, own_below h.row hb hB, h.own, h.nil⟩
/-- The stores behind the appends. -/
theorem Doc.add_end {w1 : World} {p cp : Nat} {x : ByteArray} {ci : Int} (h : Doc w base b m c v l) (hb : Below w.heap.size w w1) (ho : w1.ownsRow w.heap.size 9 1 (.slice (some ⟨p, 0, none⟩) (l.length + 1) cp) (l.length + 1) (strs l ++ [.string x])) (hci : ci = ((c + 1 : Nat) : Int)) :
    Doc ((w1.setCell ⟨b, 0, none⟩ (.slice (some ⟨p, 0, none⟩) (l.length + 1) cp)).setCell ⟨b, 2, none⟩ (.int .i64 ci)) base b m (c + 1) (.slice (some ⟨p, 0, none⟩) (l.length + 1) cp) (l ++ [x]) ∧
    Two b none w ((w1.setCell ⟨b, 0, none⟩ (.slice (some ⟨p, 0, none⟩) (l.length + 1) cp)).setCell ⟨b, 2, none⟩ (.int .i64 ci)) ∧ w.heap.size ≤ p := by
  have hp : w.heap.size ≤ p := (own_lt (p := p) ho rfl).1
  have hpb : p ≠ b := by have := h.lt; omega
  have hb1 : w1.heap[b]? = _ := (hb.block b h.lt).trans h.blk
  subst hci
  refine ⟨⟨?_, ?_, h.own, by simp⟩, ((Two.of_below hb).setCell 0 _).setCell 2 _, hp⟩
  · exact heap_setCell_same _ b 2 (.int .i64 ((c + 1 : Nat) : Int)) _ _ _ (heap_setCell_same w1 b 0 (.slice (some ⟨p, 0, none⟩) (l.length + 1) cp) _ _ _ hb1)
  · have ho' : w1.ownsRow base 9 1 (.slice (some ⟨p, 0, none⟩) (l.length + 1) cp) (l.length + 1) (strs (l ++ [x])) := by
      have e : strs (l ++ [x]) = strs l ++ [.string x] := by unfold strs; rw [List.map_append]; rfl
      rw [e]
      exact own_base ho h.base_le
    rw [List.length_append, List.length_singleton]
    refine own_kept ho' fun q hq _ => ?_
    simp only [Value.ownBlock, Option.some.injEq] at hq
    subst hq
    rw [Below.heap_setCell _ _ _ _ (by exact hpb), Below.heap_setCell _ _ _ _ (by exact hpb)]
end

theorem info9' : (Try.prog.info? 9).map (fun i => (i.zero, i.size, i.bytes)) = some (some (.string ⟨#[]⟩), 1, 16) := rinfo_str
theorem own_empty (w : World) : (w.alloc (.cells #[] 9)).ownsRow w.heap.size 9 1 (.slice (some ⟨w.heap.size, 0, none⟩) 0 0) 0 [] :=
  ⟨rfl, .inr ⟨w.heap.size, 0, #[], rfl, Nat.le_refl _, heap_alloc_new _ _, Nat.le_refl _, by decide, rfl, rfl⟩⟩

theorem news_next (w : World) (x : ByteArray) : ∀ (j : Nat) (u : Value), [Value.string x][j]? = some u → ((w.alloc (.cells #[] 9)).alloc (.cells #[.string x] 9)).cell? ((⟨w.heap.size + 1, 0, none⟩ : Addr).add j) = some u := by
  have := heap_alloc_new (w.alloc (.cells #[] 9)) (.cells #[.string x] 9)
  have e : (w.alloc (.cells #[] 9)).heap.size = w.heap.size + 1 := by simp
  rw [e] at this
  exact World.news_of_block this
/-- What Add of the document leaves. -/
def RaddPost (w : World) (base b m c : Nat) (l : List ByteArray) (x : ByteArray) (e : Ending) (w' : World) : Prop :=
  e = .returned (.tuple #[]) ∧ ∃ v', Doc w' base b m (c + 1) v' (l ++ [x]) ∧ Two b none w w' ∧ ∀ p, v'.ownBlock = some p → w.heap.size ≤ p
set_option maxRecDepth 100000 in
set_option maxHeartbeats 2000000 in
theorem radd_first {w : World} {base b m c : Nat} {v : Value} (x : ByteArray) (h : Doc w base b m c v []) (hc : c ≤ 1000000000) :
    Calls Try.prog 11 #[.pointer (some ⟨b, 0, none⟩), .string x] w fun e w' => RaddPost w base b m c [] x e w' := by
  obtain ⟨i0, hi0, hz0, hz1, hz2⟩ := info_parts info9'
  have hv := h.nil rfl
  subst hv
  have hbW : Below w.heap.size w (w.alloc (.cells #[] 9)) := (Below.refl _ _).alloc (Nat.le_refl _) _
  have f0 : (w.alloc (.cells #[] 9)).cell? ⟨b, 0, none⟩ = some (.slice none 0 0) := (h.below hbW (Nat.le_refl _)).facts.1
  have H := Lib.hid (And.intro h hbW)
  clear h hbW
  go_enter Try.func11, Try.ntmps11
  go_wp2_with (first
    | (at_builtin; refine wpList_append_own_none rfl (.tmp 5) (.tmp 9) 30 rfl w.heap.size 9 i0 1 Try.underlying30 hi0 (.slice (some ⟨w.heap.size, 0, none⟩) 0 0) 0 [] rfl (own_empty w) rfl ?_)
    | (at_builtin; refine wpList_append_lies _ rfl (.tmp 10) (.tmp 12) 30 rfl w.heap.size 9 i0 (.string ⟨#[]⟩) 1 16 Try.underlying30 hi0 hz0 hz1 hz2 rfl (by decide) (.slice (some ⟨w.heap.size, 0, none⟩) 0 0) 0 [] rfl (own_below (own_empty w) ((Below.refl _ _).alloc (Nat.le_refl _) _) (Nat.le_refl _)) ⟨w.heap.size + 1, 0, none⟩ 1 1 [.string x] rfl rfl (news_next w x) (by simp [Value.oneCell']) (by decide) (by unfold maxLen; omega) (by omega) (by simp; omega) _ rfl ?_; intro p1 cp1 w2 ho1 hg1 hat1 _; have hb2 : Below w.heap.size w w2 := (Below.grown (H.out.2.alloc (by simp) _) hg1 (by simp; omega) (by simp [Value.ownBlock])); have D2 := (H.out.1.below hb2 (Nat.le_refl _)); have b0 := D2.facts.1; have b2 := D2.facts.2.2; have b3 := frozen_row D2.blk 0; have b4 := frozen_row D2.blk 2; have G2 := Lib.hid (And.intro hb2 ho1); clear ho1 hg1 hat1 hb2 D2))
  go_end0
  obtain ⟨q1, q2, q3⟩ := H.out.1.add_end G2.out.1 G2.out.2 (ci := (c : Int) + 1) (by push_cast; rfl)
  exact ⟨rfl, _, q1, q2, fun q hq => by simp only [Value.ownBlock, Option.some.injEq] at hq; omega⟩
set_option maxRecDepth 100000 in
set_option maxHeartbeats 2000000 in
theorem radd_more {w : World} {base b m c : Nat} {v : Value} {l : List ByteArray} (x : ByteArray) (h : Doc w base b m c v l) (h0 : 0 < l.length) (h3 : l.length ≤ 300) (hc : c ≤ 1000000000) :
    Calls Try.prog 11 #[.pointer (some ⟨b, 0, none⟩), .string x] w fun e w' => RaddPost w base b m c l x e w' := by
  obtain ⟨i0, hi0, hz0, hz1, hz2⟩ := info_parts info9'
  obtain ⟨A, cp, hv, _, _⟩ := own_len h.row
  subst hv
  have hbW : Below w.heap.size w (w.alloc (.cells #[] 9)) := (Below.refl _ _).alloc (Nat.le_refl _) _
  have hD := h.below hbW (Nat.le_refl _)
  have f0 : (w.alloc (.cells #[] 9)).cell? ⟨b, 0, none⟩ = some (.slice A l.length cp) := hD.facts.1
  obtain ⟨a, rfl, hsrc⟩ := own_src hD.row (by unfold strs; rw [List.length_map]; exact h0)
  have H := Lib.hid (And.intro h (And.intro hbW hsrc))
  clear h hbW hD hsrc
  obtain ⟨n, hn⟩ : ∃ n, n = l.length := ⟨_, rfl⟩
  rw [← hn] at f0 h0 h3
  have HN := Lib.hid hn
  clear hn
  go_enter Try.func11, Try.ntmps11
  go_wp2_with (first
    | (at_builtin; refine wpList_append_lies _ rfl (.tmp 5) (.tmp 9) 30 rfl w.heap.size 9 i0 (.string ⟨#[]⟩) 1 16 Try.underlying30 hi0 hz0 hz1 hz2 rfl (by decide) (.slice (some ⟨w.heap.size, 0, none⟩) 0 0) 0 [] rfl (own_empty w) a n cp (strs l) rfl (by rw [HN.out]; simp [strs]) H.out.2.2 (strs_one l) h0 (by unfold maxLen; omega) (by omega) (by simp) _ rfl ?_; intro p0 cp0 w1 ho0 hg0 hat0 hlt0; have hb1 : Below w.heap.size w w1 := (Below.grown H.out.2.1 hg0 (by simp) (by simp [Value.ownBlock])); have G1 := Lib.hid (And.intro hb1 (show w1.ownsRow w.heap.size 9 1 (.slice (some ⟨p0, 0, none⟩) n cp0) n (strs l) by simpa using ho0)); clear ho0 hg0 hat0 hlt0 hb1)
    | (at_builtin; refine wpList_append_lies _ rfl (.tmp 10) (.tmp 12) 30 rfl w.heap.size 9 i0 (.string ⟨#[]⟩) 1 16 Try.underlying30 hi0 hz0 hz1 hz2 rfl (by decide) (.slice (some ⟨p0, 0, none⟩) n cp0) n (strs l) rfl (own_below G1.out.2 ((Below.refl _ _).alloc (Nat.le_refl _) _) (Nat.le_refl _)) ⟨w1.heap.size, 0, none⟩ 1 1 [.string x] rfl rfl (World.news_of_block (cs := #[.string x]) (heap_alloc_new _ _)) (by simp [Value.oneCell']) (by decide) (by unfold maxLen; omega) (by omega) (by have := G1.out.1.size; simp; omega) _ rfl ?_; intro p1 cp1 w2 ho1 hg1 hat1 _; have hb2 : Below w.heap.size w w2 := (Below.grown (G1.out.1.alloc G1.out.1.size _) hg1 (by have := G1.out.1.size; simp; omega) (fun k hk => (own_lt G1.out.2 hk).1)); have D2 := (H.out.1.below hb2 (Nat.le_refl _)); rw [← HN.out] at D2; have b0 := D2.facts.1; have b2 := D2.facts.2.2; have b3 := frozen_row D2.blk 0; have b4 := frozen_row D2.blk 2; have G2 := Lib.hid (And.intro hb2 ho1); clear ho1 hg1 hat1 hb2 D2))
  go_end0
  have E := HN.out
  clear HN
  subst E
  obtain ⟨q1, q2, q3⟩ := H.out.1.add_end G2.out.1 G2.out.2 (ci := (c : Int) + 1) (by push_cast; rfl)
  exact ⟨rfl, _, q1, q2, fun q hq => by simp only [Value.ownBlock, Option.some.injEq] at hq; omega⟩
theorem radd_any {w : World} {base b m c : Nat} {v : Value} {l : List ByteArray} (x : ByteArray) (h : Doc w base b m c v l) (h3 : l.length ≤ 300) (hc : c ≤ 1000000000) :
    Calls Try.prog 11 #[.pointer (some ⟨b, 0, none⟩), .string x] w fun e w' => RaddPost w base b m c l x e w' := by
  rcases Nat.eq_zero_or_pos l.length with h0 | h0
  · obtain rfl : l = [] := List.eq_nil_of_length_eq_zero h0
    exact radd_first x h hc
  · exact radd_more x h h0 h3 hc

/-- Texts that lie there, one behind the other. -/
def StrIn (w : World) (A : Option Addr) (xs : List ByteArray) : Prop := 0 < xs.length → ∃ g o, A = some ⟨g, o, none⟩ ∧ g < w.heap.size ∧ ∀ j s, xs[j]? = some s → w.cell? ⟨g, o + j, none⟩ = some (.string s)
theorem StrIn.below {w w' : World} {A : Option Addr} {xs : List ByteArray} (h : StrIn w A xs) (hb : Below w.heap.size w w') : StrIn w' A xs := fun h0 => by
  obtain ⟨g, o, rfl, hg, hc⟩ := h h0
  exact ⟨g, o, rfl, Nat.lt_of_lt_of_le hg hb.size, fun j s hs => (hb.cell (p := ⟨g, o + j, none⟩) hg).trans (hc j s hs)⟩
theorem strIn_own {w : World} {base n cp : Nat} {A : Option Addr} {l : List ByteArray} (h : w.ownsRow base 9 1 (.slice A n cp) n (strs l)) : StrIn w A l := fun h0 => by
  obtain ⟨a, rfl, hc⟩ := own_src h (by unfold strs; rw [List.length_map]; exact h0)
  rcases h.2 with ⟨e1, _⟩ | ⟨g, cap, cur, e1, _, hg, _⟩
  · cases e1
  · injection e1 with e1 _ _
    injection e1 with e1
    subst e1
    refine ⟨g, 0, rfl, heap_lt hg, fun j s hs => ?_⟩
    have := hc j (.string s) (by unfold strs; rw [List.getElem?_map, hs]; rfl)
    rwa [add_none] at this

set_option maxRecDepth 100000 in
set_option maxHeartbeats 2000000 in
theorem rall_any {w : World} {base b m c : Nat} {v : Value} {l : List ByteArray} (h : Doc w base b m c v l) (h1 : 1 ≤ m) (h2 : m ≤ 64) (h3 : l.length ≤ 301) :
    Calls Try.prog 14 #[.pointer (some ⟨b, 0, none⟩)] w fun e w' => ∃ A cp, e = .returned (.slice A (min l.length m) cp) ∧ min l.length m ≤ cp ∧ cp ≤ maxLen ∧ StrIn w' A (endOf m l) ∧ Below w.heap.size w w' := by
  obtain ⟨A, cp, hv, hc1, hc2⟩ := own_len h.row
  subst hv
  have f0 := h.facts.1
  have f1 := h.facts.2.1
  have HS := Lib.hid (strIn_own h.row)
  have l2 : cp ≤ 9223372036854775807 := by unfold maxLen at hc2; omega
  clear h
  by_cases hm : m < l.length
  · obtain ⟨g, o, rfl, hg, hcell⟩ := HS.out (by omega)
    obtain ⟨d, hd⟩ : ∃ d, l.length - m = d := ⟨_, rfl⟩
    have hmin : min l.length m = m := by omega
    have he : endOf m l = l.drop d := by unfold endOf; rw [hd]
    rw [hmin, he]
    obtain ⟨n, hn⟩ : ∃ n, n = l.length := ⟨_, rfl⟩
    rw [← hn] at f0 hm hd hc1 h3
    have d1 : (n : Int) - (m : Int) = (d : Int) := by omega
    have d2 : IntKind.i64.wrap (d : Int) = (d : Int) := by simp only [IntKind.wrap_i64]; omega
    have d3 : (0 : Int) ≤ (d : Int) := by omega
    have d4 : (d : Int) ≤ (n : Int) := by omega
    have d5 : (n : Int) ≤ (cp : Int) := by omega
    have d6 : ¬ cp = d := by omega
    have d7 : n - d = m := by omega
    have t1 : decide ((m : Int) < (n : Int)) = true := decide_eq_true (by omega)
    have t2 : decide (m < n) = true := decide_eq_true hm
    have HC := Lib.hid (And.intro hg (And.intro hcell (And.intro hn hd)))
    clear hg hcell hn hd HS hmin he
    go_enter Try.func14, Try.ntmps14
    go_wp2_with fail
    go_still_tail 9, (by kernel_rfl)
    obtain ⟨W, hW⟩ : ∃ W, W = World.mk w.heap w.tape (w.drawn + 1) w.os w.output := ⟨_, rfl⟩
    rw [← hW]
    have g0 : W.cell? ⟨b, 0, none⟩ = some (.slice (some ⟨g, o, none⟩) n cp) := by rw [hW]; exact f0
    have g1 : W.cell? ⟨b, 1, none⟩ = some (.int .i64 (m : Int)) := by rw [hW]; exact f1
    have HW := Lib.hid hW
    clear hW f0 f1
    go_wp2_with fail
    go_still_tail 15, (by kernel_rfl)
    go_wp2
    go_ret
    have hb : Below w.heap.size w W.drew := by rw [HW.out]; exact ⟨rfl, rfl, rfl, Nat.le_refl _, fun _ _ => rfl⟩
    refine ⟨some ⟨g, o + d, none⟩, cp - d, rfl, by omega, by unfold maxLen at *; omega, ?_, hb⟩
    intro _
    refine ⟨g, o + d, rfl, Nat.lt_of_lt_of_le HC.out.1 hb.size, fun j s hs => ?_⟩
    rw [List.getElem?_drop] at hs
    rw [Nat.add_assoc]
    exact (hb.cell (p := ⟨g, o + (d + j), none⟩) HC.out.1).trans (HC.out.2.1 (d + j) s hs)
  · have hmin : min l.length m = l.length := by omega
    rw [hmin, endOf_all (by omega)]
    obtain ⟨n, hn⟩ : ∃ n, n = l.length := ⟨_, rfl⟩
    rw [← hn] at f0 hm hc1 h3 ⊢
    have t1 : decide ((m : Int) < (n : Int)) = false := decide_eq_false (by omega)
    have t2 : decide (m < n) = false := decide_eq_false hm
    clear hn hmin
    go_enter Try.func14, Try.ntmps14
    go_wp2_with fail
    go_still_tail 9, (by kernel_rfl)
    go_wp2
    go_ret
    exact ⟨A, cp, rfl, hc1, hc2, HS.out.below ⟨rfl, rfl, rfl, Nat.le_refl _, fun _ _ => rfl⟩, ⟨rfl, rfl, rfl, Nat.le_refl _, fun _ _ => rfl⟩⟩

set_option maxRecDepth 100000 in
set_option maxHeartbeats 2000000 in
/-- Two lists of the same texts are the same. -/
theorem same_any (A B : Option Addr) (n ca cb : Nat) (xs : List ByteArray) (w : World) (hl : xs.length = n) (h2 : ca ≤ maxLen) (h3 : n ≤ cb) (h4 : cb ≤ maxLen) (ha : StrIn w A xs) (hb : StrIn w B xs) :
    Calls Try.prog 16 #[.slice A n ca, .slice B n cb] w fun e w' => e = .returned (.bool true) ∧ Below w.heap.size w w' := by
  have k1 : ca ≤ 9223372036854775807 := by unfold maxLen at h2; omega
  have k2 : cb ≤ 9223372036854775807 := by unfold maxLen at h4; omega
  have HA := Lib.hid (And.intro ha (And.intro hb hl))
  clear ha hb hl
  go_enter Try.func16, Try.ntmps16
  go_wp2_with fail
  go_loopw [13] (fun v13 wr => ∃ i : Nat, i ≤ n ∧ v13 = .int .i64 (i : Int) ∧ Hid (Below w.heap.size w wr)) (fun s _ => n - (intOf s).toNat)
  case atStart => exact ⟨0, Nat.zero_le _, rfl, Lib.hid (Below.refl _ _)⟩
  case round =>
    obtain ⟨i, hi, rfl, HB⟩ := hrel
    by_cases hiN : i < n
    · obtain ⟨s, hs⟩ : ∃ s, xs[i]? = some s := ⟨_, List.getElem?_eq_getElem (by rw [HA.out.2.2]; exact hiN)⟩
      obtain ⟨g, o, rfl, hg, hc⟩ := HA.out.1 (by rw [HA.out.2.2]; omega)
      obtain ⟨g', o', rfl, hg', hc'⟩ := HA.out.2.1 (by rw [HA.out.2.2]; omega)
      have c1 : wr.cell? ⟨g, o + i, none⟩ = some (.string s) := (HB.out.cell (p := ⟨g, o + i, none⟩) hg).trans (hc i s hs)
      have c2 : wr.cell? ⟨g', o' + i, none⟩ = some (.string s) := (HB.out.cell (p := ⟨g', o' + i, none⟩) hg').trans (hc' i s hs)
      clear hs hg hc hg' hc'
      go_wp2_with fail
      go_still_tail 8, (by kernel_rfl)
      go_wp2
      go_roundw
      case rel => exact ⟨i + 1, by omega, by go_num, Lib.hid (HB.out.drew)⟩
      case measure => simp [intOf]; omega
    · go_wp2
      go_ret
      exact ⟨rfl, HB.out⟩
end Go.Proofs.Ytpmmhnojofacpaa
