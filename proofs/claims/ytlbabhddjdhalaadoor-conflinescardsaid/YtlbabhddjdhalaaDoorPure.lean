/- A config is parsed of its text. -/
import Derived.Test.YtlbabhddjdhalaaDoorPrint2
import Derived.Test.YtlbabhddjdhalaaDoorDigits
namespace Go.Proofs.YtlbabhddjdhalaaDoor
open Go.RowKit Go.Proofs.Lx

def fits (n : Int) : Prop := 0 ≤ n ∧ n ≤ 1000000000
theorem text_dec {n : Int} (h : fits n) : textOf n = Lib.decDigits n.toNat := if_pos h
theorem text_ne {n : Int} (h : fits n) : textOf n ≠ [] := by rw [text_dec h]; exact dec_ne _
theorem text_number {n : Int} (h : fits n) : number (textOf n) = (n.toNat, 0) := by
  rw [text_dec h]; exact number_dec _ (by have := h.2; have := h.1; omega)
theorem text_byte (n : Int) : ∀ x ∈ textOf n, 48 ≤ x.toNat ∧ x.toNat ≤ 57 := by
  intro x hx
  unfold textOf at hx
  split at hx
  · have h := dec_decs n.toNat
    unfold decsB at h
    rw [List.all_eq_true] at h
    have := (decB_iff x).1 (h x hx)
    omega
  · simp at hx
/-- Bytes of a word: neither blank, nor #, nor an end. -/
def wb (x : UInt8) : Bool := okB x && !blankB x && x != 35 && x != 10
theorem dig_wb (x : UInt8) (h : 48 ≤ x.toNat ∧ x.toNat ≤ 57) : wb x = true := by
  have : ∀ n : Fin 256, 48 ≤ (UInt8.ofNat n.val).toNat ∧ (UInt8.ofNat n.val).toNat ≤ 57 → wb (UInt8.ofNat n.val) = true := by decide +kernel
  have h2 := this ⟨x.toNat, x.toNat_lt⟩
  simpa using h2 (by simpa using h)
def wbs (l : Bs) : Prop := ∀ x ∈ l, wb x = true
theorem text_wbs (n : Int) : wbs (textOf n) := fun x hx => dig_wb x (text_byte n x hx)
def body (word : Bs) (ns : List Int) : Bs := word ++ numsT ns
theorem lineOf_body (word : Bs) (ns : List Int) : lineOf word ns = body word ns ++ [10] := rfl
theorem wrd_run : ∀ (a : Bs) (acc : List Bs) (cur rest : Bs), wbs a → wrd acc cur (a ++ rest) = wrd acc (cur ++ a) rest
  | [], acc, cur, rest, _ => by simp
  | c :: a, acc, cur, rest, h => by
    have hc : blankB c = false := by have := h c (by simp); simp [wb] at this; simp [this]
    rw [List.cons_append, wrd, hc]
    simp only [Bool.false_eq_true, ↓reduceIte]
    rw [wrd_run a acc _ rest (fun x hx => h x (by simp [hx]))]
    simp
theorem wrd_nums : ∀ (ns : List Int) (acc : List Bs) (cur : Bs), cur ≠ [] → (∀ n ∈ ns, fits n) → wrd acc cur (numsT ns) = acc ++ [cur] ++ ns.map textOf
  | [], acc, cur, h, _ => by simp [numsT, wrd, addW, h]
  | n :: ns, acc, cur, h, hf => by
    have hn := hf n (by simp)
    rw [numsT, wrd]
    have hb : blankB 32 = true := rfl
    rw [if_pos hb, wrd_run (textOf n) _ [] _ (text_wbs n), List.nil_append, wrd_nums ns _ _ (text_ne hn) (fun m hm => hf m (by simp [hm]))]
    simp [addW, h]
theorem words_body (word : Bs) (ns : List Int) (hw : word ≠ []) (hb : wbs word) (hf : ∀ n ∈ ns, fits n) : wordsOf (body word ns) = word :: ns.map textOf := by
  unfold wordsOf body
  rw [wrd_run word [] [] _ hb, List.nil_append, wrd_nums ns [] word hw hf]
  simp
theorem body_bytes (word : Bs) (ns : List Int) (hb : wbs word) : ∀ x ∈ body word ns, wb x = true ∨ x = 32 := by
  intro x hx
  unfold body at hx
  rcases List.mem_append.1 hx with h | h
  · exact .inl (hb x h)
  · induction ns with
    | nil => simp [numsT] at h
    | cons n ns ih =>
      rw [numsT] at h
      rcases List.mem_cons.1 h with h | h
      · exact .inr h
      · rcases List.mem_append.1 h with h | h
        · exact .inl (text_wbs n x h)
        · exact ih (List.mem_append.2 (.inr h)) h
theorem said_none : ∀ (l : Bs), (∀ x ∈ l, x ≠ 35) → said l = l
  | [], _ => rfl
  | c :: l, h => by
    have hc := h c (by simp)
    have := said_none l (fun x hx => h x (by simp [hx]))
    unfold said at *
    simp [hc, this]
theorem body_said (word : Bs) (ns : List Int) (hb : wbs word) : said (body word ns) = body word ns :=
  said_none _ fun x hx => by
    rcases body_bytes word ns hb x hx with h | h
    · simp [wb] at h; simp [h]
    · subst h; decide
theorem body_plain (word : Bs) (ns : List Int) (hb : wbs word) : plainB (body word ns) = true := by
  unfold plainB
  rw [List.all_eq_true]
  intro x hx
  rcases body_bytes word ns hb x hx with h | h
  · simp [wb] at h; simp [h]
  · subst h; decide
theorem body_end (word : Bs) (ns : List Int) (hb : wbs word) : (10 : UInt8) ∉ body word ns := fun hx => by
  rcases body_bytes word ns hb 10 hx with h | h
  · simp [wb] at h
  · exact absurd h (by decide)

/-! ### lines behind each other -/
def joinL (ps : List Bs) (t : Bs) : Bs := ps.flatMap (· ++ [10]) ++ t
theorem linesOf_join : ∀ (ps : List Bs) (t : Bs), (∀ p ∈ ps, (10 : UInt8) ∉ p) → linesOf (joinL ps t) = ps ++ linesOf t
  | [], t, _ => by simp [joinL]
  | p :: ps, t, h => by
    have e : joinL (p :: ps) t = p ++ 10 :: joinL ps t := by simp [joinL]
    have hj : linesOf (p ++ 10 :: joinL ps t) = linesOf p ++ linesOf (joinL ps t) := cutF_join 10 p _ [] []
    rw [e, hj, linesOf_one p (h p (by simp)), linesOf_join ps t (fun q hq => h q (by simp [hq]))]
    simp
def numL (i : Nat) : List (List Bs) → List Ln
  | [] => []
  | w :: ws => (i + 1, w) :: numL (i + 1) ws
/-- A line that is said whole. -/
def whole (p : Bs) (ws : List Bs) : Prop := plainB (said p) = true ∧ wordsOf (said p) = ws ∧ ws ≠ []
theorem linesFrom_whole : ∀ (ps : List (Bs × List Bs)) (i : Nat) (acc : List Ln) (q : List Bs), (∀ x ∈ ps, whole x.1 x.2) → linesFrom i acc (ps.map (·.1) ++ q) = linesFrom (i + ps.length) (acc ++ numL i (ps.map (·.2))) q
  | [], i, acc, q, _ => by simp [numL]
  | p :: ps, i, acc, q, h => by
    obtain ⟨a, b, c⟩ := h p (by simp)
    rw [List.map_cons, List.map_cons, List.cons_append, linesFrom, if_pos a, b, linesFrom_whole ps _ _ q (fun x hx => h x (by simp [hx]))]
    simp only [addL, if_neg c, List.length_cons, numL, List.append_assoc, List.cons_append, List.nil_append]
    rw [show i + 1 + ps.length = i + (ps.length + 1) by omega]
def steps (st : St) : List (List Bs) → Option St
  | [] => some st
  | ws :: r => if (doL st ws).1 = 0 then steps (doL st ws).2 r else none
theorem runL_steps : ∀ (wss : List (List Bs)) (st st' : St) (i : Nat) (R : List Ln), steps st wss = some st' → runL st (numL i wss ++ R) = runL st' R
  | [], st, st', i, R, h => by simp [steps] at h; subst h; rfl
  | ws :: r, st, st', i, R, h => by
    unfold steps at h
    split at h
    · rename_i h0
      rw [numL, List.cons_append, runL, if_pos h0]
      exact runL_steps r _ st' _ R h
    · cases h
theorem steps_app : ∀ (a b : List (List Bs)) (st st' : St), steps st a = some st' → steps st (a ++ b) = steps st' b
  | [], b, st, st', h => by simp [steps] at h; subst h; rfl
  | ws :: r, b, st, st', h => by
    unfold steps at h
    split at h
    · rename_i h0
      rw [List.cons_append, steps, if_pos h0]
      exact steps_app r b _ st' h
    · cases h

/-! ### what a line of a config's text does -/
theorem nums_one {n : Int} (h : fits n) : numbersOf [textOf n] 1 = ([n], 0) := by
  unfold numbersOf
  rw [if_pos (by simp)]
  simp only [numsF, text_number h, ↓reduceIte, List.nil_append]
  have := h.1
  rw [show ((n.toNat : Nat) : Int) = n by omega]
theorem nums_two {n m : Int} (h : fits n) (k : fits m) : numbersOf [textOf n, textOf m] 2 = ([n, m], 0) := by
  unfold numbersOf
  rw [if_pos (by simp)]
  simp only [numsF, text_number h, text_number k, ↓reduceIte, List.nil_append, List.cons_append]
  have := h.1
  have := k.1
  rw [show ((n.toNat : Nat) : Int) = n by omega, show ((m.toNat : Nat) : Int) = m by omega]
theorem do_server {st : St} {a : Int} (h : fits a) (hm : a ∉ st.c.S) (hl : st.c.S.length < 16) : doL st [wServer, textOf a] = (0, { st with c := { st.c with S := st.c.S ++ [a] }, b0 := true }) := by
  show doServer st [textOf a] = _
  unfold doServer
  rw [nums_one h]
  have e : addS st.c a = (0, { st.c with S := st.c.S ++ [a] }) := by
    unfold addS
    rw [if_neg hm, if_neg (by omega)]
  simp [e]
theorem do_quorum {st : St} {a : Int} (h : fits a) (hb : st.b1 = false) : doL st [wQuorum, textOf a] = (0, { st with c := { st.c with q := a }, b1 := true }) := by
  show doW st wQuorum [textOf a] = _
  unfold doW
  rw [if_neg (by decide), if_pos rfl]
  unfold doOnce
  rw [nums_one h, hb]
  simp [setQ]
theorem do_poll {st : St} {a b : Int} (h : fits a) (k : fits b) (hb : st.b2 = false) : doL st [wPoll, textOf a, textOf b] = (0, { st with c := { st.c with l := a, m := b }, b2 := true }) := by
  show doW st wPoll [textOf a, textOf b] = _
  unfold doW
  rw [if_neg (by decide), if_neg (by decide), if_pos rfl]
  unfold doOnce
  rw [nums_two h k, hb]
  simp [setP]
theorem do_delay {st : St} {a : Int} (h : fits a) (hb : st.b3 = false) : doL st [wDelay, textOf a] = (0, { st with c := { st.c with d := a }, b3 := true }) := by
  show doW st wDelay [textOf a] = _
  unfold doW
  rw [if_neg (by decide), if_neg (by decide), if_neg (by decide), if_pos rfl]
  unfold doOnce
  rw [nums_one h, hb]
  simp [setD]
theorem do_slew {st : St} {a : Int} (h : fits a) (hb : st.b4 = false) : doL st [wSlew, textOf a] = (0, { st with c := { st.c with s := a }, b4 := true }) := by
  show doW st wSlew [textOf a] = _
  unfold doW
  rw [if_neg (by decide), if_neg (by decide), if_neg (by decide), if_neg (by decide), if_pos rfl]
  unfold doOnce
  rw [nums_one h, hb]
  simp [setSl]
theorem steps_one {st st' : St} {ws : List Bs} {r : List (List Bs)} (h : doL st ws = (0, st')) : steps st (ws :: r) = steps st' r := by
  rw [steps, h]
  exact if_pos rfl
theorem steps_servers : ∀ (S : List Int) (st : St), (∀ a ∈ S, fits a) → S.Nodup → (∀ a ∈ S, a ∉ st.c.S) → st.c.S.length + S.length ≤ 16 →
    steps st (S.map fun a => [wServer, textOf a]) = some { st with c := { st.c with S := st.c.S ++ S }, b0 := st.b0 || !S.isEmpty }
  | [], st, _, _, _, _ => by simp [steps]
  | a :: S, st, hf, hn, hm, hl => by
    have hn2 := List.nodup_cons.1 hn
    rw [List.map_cons, steps_one (do_server (hf a (by simp)) (hm a (by simp)) (by simp at hl; omega)),
      steps_servers S _ (fun x hx => hf x (by simp [hx])) hn2.2 (fun x hx h => by
        simp only [List.mem_append, List.mem_singleton] at h
        rcases h with h | h
        · exact hm x (by simp [hx]) h
        · subst h; exact hn2.1 hx) (by simp at hl ⊢; omega)]
    simp

/-! ### what may be -/
theorem srvs_zero : ∀ (S seen : List Int), srvs seen S = 0 → (∀ a ∈ S, 1 ≤ a ∧ a ≤ 65535) ∧ S.Nodup ∧ ∀ a ∈ S, a ∉ seen
  | [], seen, _ => by simp
  | a :: S, seen, h => by
    unfold srvs at h
    split at h
    · cases h
    · rename_i h1
      split at h
      · cases h
      · rename_i h2
        obtain ⟨k1, k2, k3⟩ := srvs_zero S _ h
        refine ⟨fun x hx => ?_, List.nodup_cons.2 ⟨fun hm => k3 a hm (by simp), k2⟩, fun x hx => ?_⟩
        · rcases List.mem_cons.1 hx with rfl | hx
          · omega
          · exact k1 x hx
        · rcases List.mem_cons.1 hx with rfl | hx
          · exact h2
          · exact fun hs => k3 x hx (by simp [hs])
theorem check_zero {c : Cfg} (h : checkOf c = 0) : c.S ≠ [] ∧ c.S.length ≤ 16 ∧ (∀ a ∈ c.S, 1 ≤ a ∧ a ≤ 65535) ∧ c.S.Nodup ∧ numsOk c := by
  unfold checkOf at h
  split at h
  · cases h
  · rename_i h1
    split at h
    · cases h
    · rename_i h2
      split at h
      · rename_i h3; exact absurd h h3
      · rename_i h3
        split at h
        · rename_i h4
          obtain ⟨k1, k2, _⟩ := srvs_zero c.S [] (by simpa using h3)
          exact ⟨h1, by omega, k1, k2, h4⟩
        · cases h

/-! ### the text of a config, parsed -/
def linesC (c : Cfg) : List (Bs × List Bs) :=
  (c.S.map fun a => (body wServer [a], [wServer, textOf a])) ++ [(body wQuorum [c.q], [wQuorum, textOf c.q]), (body wPoll [c.l, c.m], [wPoll, textOf c.l, textOf c.m]), (body wDelay [c.d], [wDelay, textOf c.d]), (body wSlew [c.s], [wSlew, textOf c.s])]
theorem srvT_eq : ∀ S : List Int, srvT S = (S.map fun a => body wServer [a]).flatMap (· ++ [10])
  | [] => rfl
  | a :: S => by rw [srvT, srvT_eq S, lineOf_body]; simp
theorem print_join (c : Cfg) (t : Bs) : printOf c ++ t = joinL ((linesC c).map (·.1)) t := by
  unfold printOf joinL linesC
  rw [srvT_eq]
  simp [lineOf_body, List.flatMap_append, Function.comp_def]
structure Fit5 (c : Cfg) : Prop where
  S : ∀ a ∈ c.S, fits a
  q : fits c.q
  l : fits c.l
  m : fits c.m
  d : fits c.d
  s : fits c.s
theorem fit_of {c : Cfg} (h : checkOf c = 0) : Fit5 c := by
  obtain ⟨_, h2, h3, _, h5⟩ := check_zero h
  obtain ⟨⟨a1, a2⟩, ⟨b1, b2⟩, ⟨c1, c2⟩, ⟨d1, d2⟩, ⟨e1, e2⟩⟩ := h5
  exact ⟨fun a ha => by have := h3 a ha; constructor <;> omega, ⟨by omega, by omega⟩, ⟨by omega, by omega⟩, ⟨by omega, by omega⟩, ⟨by omega, by omega⟩, ⟨by omega, by omega⟩⟩
theorem whole_body {word : Bs} {ns : List Int} (hw : word ≠ []) (hb : wbs word) (hf : ∀ n ∈ ns, fits n) : whole (body word ns) (word :: ns.map textOf) :=
  ⟨by rw [body_said word ns hb]; exact body_plain word ns hb, by rw [body_said word ns hb]; exact words_body word ns hw hb hf, by simp⟩
theorem five_wbs : wbs wServer ∧ wbs wQuorum ∧ wbs wPoll ∧ wbs wDelay ∧ wbs wSlew := by
  unfold wbs
  decide
theorem lines_whole {c : Cfg} (h : Fit5 c) : ∀ x ∈ linesC c, whole x.1 x.2 := by
  obtain ⟨w0, w1, w2, w3, w4⟩ := five_wbs
  intro x hx
  unfold linesC at hx
  rcases List.mem_append.1 hx with hx | hx
  · obtain ⟨a, ha, rfl⟩ := List.mem_map.1 hx
    exact whole_body (ns := [a]) (by decide) w0 (fun n hn => by simp at hn; rw [hn]; exact h.S a ha)
  · simp only [List.mem_cons, List.not_mem_nil, or_false] at hx
    rcases hx with rfl | rfl | rfl | rfl
    · exact whole_body (ns := [c.q]) (by decide) w1 (fun n hn => by simp at hn; subst hn; exact h.q)
    · exact whole_body (ns := [c.l, c.m]) (by decide) w2 (fun n hn => by simp at hn; rcases hn with rfl | rfl; exact h.l; exact h.m)
    · exact whole_body (ns := [c.d]) (by decide) w3 (fun n hn => by simp at hn; subst hn; exact h.d)
    · exact whole_body (ns := [c.s]) (by decide) w4 (fun n hn => by simp at hn; subst hn; exact h.s)
theorem lines_end (c : Cfg) : ∀ p ∈ (linesC c).map (·.1), (10 : UInt8) ∉ p := by
  obtain ⟨w0, w1, w2, w3, w4⟩ := five_wbs
  intro p hp
  obtain ⟨x, hx, rfl⟩ := List.mem_map.1 hp
  unfold linesC at hx
  rcases List.mem_append.1 hx with hx | hx
  · obtain ⟨a, ha, rfl⟩ := List.mem_map.1 hx
    exact body_end _ _ w0
  · simp only [List.mem_cons, List.not_mem_nil, or_false] at hx
    rcases hx with rfl | rfl | rfl | rfl
    · exact body_end _ _ w1
    · exact body_end _ _ w2
    · exact body_end _ _ w3
    · exact body_end _ _ w4
def full (c : Cfg) : St := ⟨c, true, true, true, true, true⟩
theorem steps_config {c : Cfg} (h : checkOf c = 0) : steps St.none ((linesC c).map (·.2)) = some (full c) := by
  obtain ⟨h1, h2, _, h4, _⟩ := check_zero h
  have hf := fit_of h
  have e : (linesC c).map (·.2) = (c.S.map fun a => [wServer, textOf a]) ++ [[wQuorum, textOf c.q], [wPoll, textOf c.l, textOf c.m], [wDelay, textOf c.d], [wSlew, textOf c.s]] := by
    unfold linesC; simp [Function.comp_def]
  rw [e, steps_app _ _ _ _ (steps_servers c.S St.none hf.S h4 (by simp [St.none, Cfg.none]) (by simp [St.none, Cfg.none]; exact h2)),
    steps_one (do_quorum hf.q rfl), steps_one (do_poll hf.l hf.m rfl), steps_one (do_delay hf.d rfl), steps_one (do_slew hf.s rfl)]
  have hne : c.S.isEmpty = false := by simpa using h1
  simp [steps, full, St.none, Cfg.none, hne]
/-- Of a config's text and what stands behind it: the config's lines are done, then the rest. -/
theorem res_behind {c : Cfg} (h : checkOf c = 0) (t : Bs) : res (printOf c ++ t) = linesFrom (linesC c).length (numL 0 ((linesC c).map (·.2))) (linesOf t) := by
  unfold res
  rw [print_join, linesOf_join _ _ (lines_end c), linesFrom_whole (linesC c) 0 [] _ (lines_whole (fit_of h))]
  simp
theorem print_len (c : Cfg) (h : c.S.length ≤ 16) : (printOf c).length ≤ 2000 := by
  have h0 := srvT_len c.S
  have h1 := line_len wQuorum [c.q] (by decide) (by simp)
  have h2 := line_len wPoll [c.l, c.m] (by decide) (by simp)
  have h3 := line_len wDelay [c.d] (by decide) (by simp)
  have h4 := line_len wSlew [c.s] (by decide) (by simp)
  unfold printOf
  simp only [List.length_append]
  omega
theorem parse_print {c : Cfg} (h : checkOf c = 0) : parseOf (printOf c) = (c, 0, 0) := by
  obtain ⟨_, h2, _⟩ := check_zero h
  have hr : res (printOf c) = .good (numL 0 ((linesC c).map (·.2))) := by
    have := res_behind h []
    rw [List.append_nil] at this
    rw [this]
    rfl
  have hl : ¬ 65536 < (printOf c).length := by have := print_len c h2; omega
  have ho := out_good (printOf c) hl hr
  unfold parseOf
  rw [ho, if_pos rfl]
  have := runL_steps _ _ _ 0 [] (steps_config h)
  rw [List.append_nil] at this
  rw [this]
  show fin (full c) = _
  unfold fin full
  simp [h]
theorem print_inj {a b : Cfg} (ha : checkOf a = 0) (hb : checkOf b = 0) (h : printOf a = printOf b) : a = b := by
  have h1 := parse_print ha
  rw [h, parse_print hb] at h1
  injection h1 with h1 _
  exact h1.symm
end Go.Proofs.YtlbabhddjdhalaaDoor
