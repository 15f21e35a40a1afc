/- One round of the sort's loop: what each step gives. Over no program. -/
import Derived.Test.YtjjcoblbiagflaaGreatProg
import Derived.Sort.Walk13a
import Derived.Sort.AssemblyPlain
namespace Go.Proofs.YtjjcoblbiagflaaGreat
open Go.Sort

structure RdFacts {α : Type} [Inhabited α] (lt : α → α → Bool) (d : Array α) (a b limit : Nat) (wb wp : Bool) (d1 : Array α) (lim1 p1 : Nat) (h1 : Hint) (d2 : Array α) (pv : Nat) (ht : Hint) (d3 : Array α) (dn : Bool) : Prop where
  brk : wb = false → d1 = breakPatterns d a b ∧ lim1 = limit - 1
  nobrk : wb = true → d1 = d ∧ lim1 = limit
  piv : choosePivot lt d1 a b = (p1, h1)
  rev : h1 = .decreasing → d2 = reverseRange d1 a b ∧ pv = (b - 1) - (p1 - a) ∧ ht = .increasing
  norev : h1 ≠ .decreasing → d2 = d1 ∧ pv = p1 ∧ ht = h1
  par : (wb && wp && decide (ht = .increasing)) = true → partialInsertionSort lt d2 a b = (d3, dn)
  nopar : (wb && wp && decide (ht = .increasing)) = false → d3 = d2 ∧ dn = false
  done : ¬ b - a ≤ 12 → ¬ limit = 0 → dn = true → pdq lt d a b limit wb wp = d3
  eq : ¬ b - a ≤ 12 → ¬ limit = 0 → dn = false → (decide (a > 0) && !lt d3[a - 1]! d3[pv]!) = true → ∀ mid d4, partitionEqual lt d3 a b pv = (mid, d4) →
    a < mid ∧ mid ≤ b ∧ d4.size = d.size ∧ Below lt mid b d4 ∧ pdq lt d a b limit wb wp = pdq lt d4 mid b lim1 wb wp
  parts : ∀ mid ap d4, partition lt d3 a b pv = (mid, ap, d4) → a ≤ mid ∧ mid < b ∧ d4.size = d.size ∧ Below lt a mid d4 ∧ Below lt (mid + 1) b d4
  left : ¬ b - a ≤ 12 → ¬ limit = 0 → dn = false → (decide (a > 0) && !lt d3[a - 1]! d3[pv]!) = false → ∀ mid ap d4, partition lt d3 a b pv = (mid, ap, d4) → mid - a < b - mid → ∀ R, R = pdq lt d4 a mid lim1 true true →
    R.size = d.size ∧ Below lt (mid + 1) b R ∧ pdq lt d a b limit wb wp = pdq lt R (mid + 1) b lim1 (decide ((b - a) / 8 ≤ mid - a)) ap
  right : ¬ b - a ≤ 12 → ¬ limit = 0 → dn = false → (decide (a > 0) && !lt d3[a - 1]! d3[pv]!) = false → ∀ mid ap d4, partition lt d3 a b pv = (mid, ap, d4) → ¬ mid - a < b - mid → ∀ R, R = pdq lt d4 (mid + 1) b lim1 true true →
    R.size = d.size ∧ Below lt a mid R ∧ pdq lt d a b limit wb wp = pdq lt R a mid lim1 (decide ((b - a) / 8 ≤ b - mid)) ap
  s1 : d1.size = d.size
  s2 : d2.size = d.size
  s3 : d3.size = d.size
  rp : a ≤ p1 ∧ p1 < b
  rv : a ≤ pv ∧ pv < b
  rl : lim1 ≤ limit

theorem rd_spec {α : Type} [Inhabited α] {lt : α → α → Bool} (SW : SWO lt) {d : Array α} {a b : Nat} (limit : Nat) (wb wp : Bool) (hab : a < b) (hb : b ≤ d.size) (hB : Below lt a b d) :
    ∃ d1 lim1 p1 h1 d2 pv ht d3 dn, RdFacts lt d a b limit wb wp d1 lim1 p1 h1 d2 pv ht d3 dn := by
  obtain ⟨s1, B1, hc1, s2, B2, hpv, s3, B3⟩ := rd_facts (limit := limit) (wb := wb) (wp := wp) SW partialInsertionSort_holds reverseRange_holds hab hb hB
  refine ⟨(rd lt d a b limit wb wp).d1, (rd lt d a b limit wb wp).lim, (rd lt d a b limit wb wp).c.1, (rd lt d a b limit wb wp).c.2, (rd lt d a b limit wb wp).d2, (rd lt d a b limit wb wp).pivot, (rd lt d a b limit wb wp).hint, (rd lt d a b limit wb wp).pi.1, (rd lt d a b limit wb wp).pi.2, ?_⟩
  constructor
  · intro h; subst h; exact rd_false
  · intro h; subst h; exact rd_true
  · exact rd_c.symm
  · exact fun h => rd_dec h
  · exact fun h => rd_not h
  · exact fun h => (rd_pi_yes h).symm
  · intro h
    have := rd_pi_no h
    rw [this]
    exact ⟨rfl, rfl⟩
  · exact fun h h0 h1 => pdq_done h h0 h1
  · intro h h0 h1 h2 mid d4 hx
    have h2' := h2
    simp only [Bool.and_eq_true, decide_eq_true_eq, Bool.not_eq_true'] at h2'
    obtain ⟨r1, r2, r3, r4, _⟩ := round_eq SW (partitionEqual_holds lt) h2'.1 hpv.1 hpv.2 (by rw [s3]; exact hb) B3 h2'.2 hx
    exact ⟨r1, r2, r3.trans s3, r4, by rw [pdq_eq h h0 h1 h2 (by rw [hx]; exact ⟨r1, r2⟩), hx]⟩
  · intro mid ap d4 hx
    obtain ⟨r1, r2, r3, r4, r5, _, _⟩ := round_part SW (partition_holds lt) hpv.1 hpv.2 (by rw [s3]; exact hb) B3 hx
    exact ⟨r1, r2, r3.trans s3, r4, r5⟩
  · intro h h0 h1 h2 mid ap d4 hx h4 R hR
    obtain ⟨r1, r2, r3, r4, r5, r6, r7⟩ := round_part SW (partition_holds lt) hpv.1 hpv.2 (by rw [s3]; exact hb) B3 hx
    obtain ⟨pL, sL⟩ := pdq_sorts lt SW d4 a mid (rd lt d a b limit wb wp).lim true true (by omega) (by rw [r3, s3]; omega) r4
    rw [← hR] at pL sL
    exact ⟨pL.1.trans (r3.trans s3), (r6 _ pL sL).1, by rw [pdq_left h h0 h1 h2 (by rw [hx]; exact ⟨r1, r2⟩) (by rw [hx]; exact h4), hx, hR]⟩
  · intro h h0 h1 h2 mid ap d4 hx h4 R hR
    obtain ⟨r1, r2, r3, r4, r5, r6, r7⟩ := round_part SW (partition_holds lt) hpv.1 hpv.2 (by rw [s3]; exact hb) B3 hx
    obtain ⟨pL, sL⟩ := pdq_sorts lt SW d4 (mid + 1) b (rd lt d a b limit wb wp).lim true true (by omega) (by rw [r3, s3]; exact hb) r5
    rw [← hR] at pL sL
    exact ⟨pL.1.trans (r3.trans s3), (r7 _ pL sL).1, by rw [pdq_right h h0 h1 h2 (by rw [hx]; exact ⟨r1, r2⟩) (by rw [hx]; exact h4), hx, hR]⟩
  · exact s1
  · exact s2
  · exact s3
  · exact hc1
  · exact hpv
  · exact rd_lim_le
end Go.Proofs.YtjjcoblbiagflaaGreat
