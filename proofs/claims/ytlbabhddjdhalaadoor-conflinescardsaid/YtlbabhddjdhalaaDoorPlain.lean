/- plain and decimals: bytes gone through by a range over a string. -/
import Derived.Test.YtlbabhddjdhalaaDoorRows
import Derived.Test.YtlbabhddjdhalaaDoorMem
import Derived.WalkKit
import Derived.WalkSpells
import Derived.Lib.Hide
namespace Go.Proofs.YtlbabhddjdhalaaDoor
open Go.RowKit Go.Proofs.Lx

theorem iterPos_of {w : World} {k : Nat} {s : ByteArray} {p : Nat} (h : w.heap[k]? = some (.stringIter s p)) : w.iterPos k = p := by simp [World.iterPos, h]
theorem drop_at (s : ByteArray) (pos : Nat) (h : pos < s.size) : s.data.toList.drop pos = s[pos] :: s.data.toList.drop (pos + 1) := by
  rw [List.drop_eq_getElem_cons (by simpa using h)]; rfl
theorem drop_end (s : ByteArray) (pos : Nat) (h : ¬ pos < s.size) : s.data.toList.drop pos = [] := List.drop_eq_nil_of_le (by simpa using Nat.le_of_not_lt h)

theorem plain_step (s : ByteArray) (pos : Nat) (h : pos < s.size) : plainB (s.data.toList.drop pos) = (okB s[pos] && plainB (s.data.toList.drop (pos + 1))) := by
  rw [drop_at s pos h]; simp [plainB]
theorem u8_beq (c : UInt8) (n : Nat) (hn : n < 256) : (c == UInt8.ofNat n) = decide ((c.toNat : Int) = n) := by
  rw [Bool.eq_iff_iff]; simp [← UInt8.toNat_inj, Nat.mod_eq_of_lt hn]; omega
theorem okB_iff (c : UInt8) : okB c = true ↔ ((c.toNat : Int) = 9 ∨ (32 ≤ (c.toNat : Int) ∧ (c.toNat : Int) ≤ 126)) := by
  unfold okB
  simp [← UInt8.toNat_inj, UInt8.le_iff_toNat_le]
  omega
theorem okB_false (c : UInt8) : okB c = false ↔ ¬ ((c.toNat : Int) = 9 ∨ (32 ≤ (c.toNat : Int) ∧ (c.toNat : Int) ≤ 126)) := by
  rw [← okB_iff]; simp
theorem blankB_iff (c : UInt8) : blankB c = true ↔ ((c.toNat : Int) = 32 ∨ (c.toNat : Int) = 9) := by
  unfold blankB
  simp [← UInt8.toNat_inj]
  omega

theorem dec_lt (a b : Int) (h : ¬ a < b) : decide (a < b) = false := by simp; omega
def decB (c : UInt8) : Bool := 48 ≤ c && c ≤ 57
theorem decB_iff (c : UInt8) : decB c = true ↔ (48 ≤ (c.toNat : Int) ∧ (c.toNat : Int) ≤ 57) := by
  unfold decB
  simp [UInt8.le_iff_toNat_le]
  omega
def decsB (l : Bs) : Bool := l.all decB
theorem decs_step (s : ByteArray) (pos : Nat) (h : pos < s.size) : decsB (s.data.toList.drop pos) = (decB s[pos] && decsB (s.data.toList.drop (pos + 1))) := by
  rw [drop_at s pos h]; simp [decsB]

set_option maxRecDepth 100000 in
set_option maxHeartbeats 1000000 in
theorem plain_any (s : ByteArray) (w : World) :
    Calls Tryd.prog 46 #[.string s] w fun e w' => e = .returned (.bool (plainB s.data.toList)) ∧ Below w.heap.size w w' := by
  go_enter Tryd.func46, Tryd.ntmps46
  go_wp2
  go_loopw [4] (fun _ wr => ∃ pos : Nat, pos ≤ s.size ∧ wr = w.iter s pos ∧ Hid (plainB s.data.toList = plainB (s.data.toList.drop pos))) (fun _ wr => s.size - wr.iterPos w.heap.size)
  case atStart => exact ⟨0, Nat.zero_le _, rfl, rfl⟩
  case round =>
    obtain ⟨pos, hpos, rfl, HP⟩ := hrel
    by_cases hp : pos < s.size
    · have hst := HP.out.trans (plain_step s pos hp)
      have hb : ∀ q, Below w.heap.size w (w.iter s q) := fun q => (Below.refl _ _).alloc (Nat.le_refl _) _
      by_cases hok : okB s[pos] = true
      · have ha : (s[pos]'hp).toNat < 128 := by have := (okB_iff _).1 hok; omega
        have hnx : ∀ ty, (Instr.next (.pointer (some ⟨w.heap.size, 0, none⟩)) true ty).run Tryd.prog (w.iter s pos) = _ := fun ty => run_next_ascii w s pos ty hp ha
        rw [hok, Bool.true_and] at hst
        have HST : Hid (plainB s.data.toList = plainB (s.data.toList.drop (pos + 1))) := hst
        have hc := (okB_iff _).1 hok
        clear hst HP hok
        by_cases h9 : ((s[pos]'hp).toNat : Int) = 9
        · go_wp2
          go_roundw
          case rel => exact ⟨pos + 1, by omega, rfl, HST⟩
          case measure => simp; omega
        · have h1 : (32 : Int) ≤ ((s[pos]'hp).toNat : Int) := by omega
          have h2 : ((s[pos]'hp).toNat : Int) ≤ 126 := by omega
          clear hc
          go_wp2
          go_roundw
          case rel => exact ⟨pos + 1, by omega, rfl, HST⟩
          case measure => simp; omega
      · have hok' : okB s[pos] = false := by simpa using hok
        rw [hok', Bool.false_and] at hst
        have HST : Hid (plainB s.data.toList = false) := hst
        have hc := (okB_false _).1 hok'
        clear hst HP hok hok'
        by_cases ha : (s[pos]'hp).toNat < 128
        · have hnx : ∀ ty, (Instr.next (.pointer (some ⟨w.heap.size, 0, none⟩)) true ty).run Tryd.prog (w.iter s pos) = _ := fun ty => run_next_ascii w s pos ty hp ha
          have h9 : ¬ ((s[pos]'hp).toNat : Int) = 9 := by omega
          by_cases h1 : ((s[pos]'hp).toNat : Int) < 32
          · clear hc
            go_wp2
            go_ret
            exact ⟨by rw [HST.out]; first | done | rfl, hb _⟩
          · have h2 : (126 : Int) < ((s[pos]'hp).toNat : Int) := by omega
            clear hc
            go_wp2
            go_ret
            exact ⟨by rw [HST.out]; first | done | rfl, hb _⟩
        · have hnx : ∀ ty, (Instr.next (.pointer (some ⟨w.heap.size, 0, none⟩)) true ty).run Tryd.prog (w.iter s pos) = _ := fun ty => run_next_any w s pos ty hp
          have hd := (decode_high s pos hp (by omega)).1
          obtain ⟨d, hdd⟩ : ∃ d, d = (Utf8.decode s pos).1 := ⟨_, rfl⟩
          rw [← hdd] at hd hnx
          have h9 : ¬ (d : Int) = 9 := by omega
          have h1 : ¬ (d : Int) < 32 := by omega
          have h2 : (126 : Int) < (d : Int) := by omega
          clear hc hdd
          go_wp2
          go_ret
          exact ⟨by rw [HST.out]; first | done | rfl, hb _⟩
    · have hnx : ∀ ty, (Instr.next (.pointer (some ⟨w.heap.size, 0, none⟩)) true ty).run Tryd.prog (w.iter s pos) = _ := fun ty => run_next_end w s pos ty hp
      have HT : Hid (plainB s.data.toList = true) := by
        have := HP.out
        rw [drop_end s pos hp] at this
        exact this
      clear HP
      go_wp2
      go_ret
      exact ⟨by rw [HT.out]; first | done | rfl, (Below.refl _ _).alloc (Nat.le_refl _) _⟩

set_option maxRecDepth 100000 in
set_option maxHeartbeats 1000000 in
theorem decimals_any (s : ByteArray) (w : World) :
    Calls Tryd.prog 78 #[.string s] w fun e w' => e = .returned (.bool (decsB s.data.toList && !s.data.toList.isEmpty)) ∧ Below w.heap.size w w' := by
  go_enter Tryd.func78, Tryd.ntmps78
  go_wp2
  go_loopw [4] (fun _ wr => ∃ pos : Nat, pos ≤ s.size ∧ wr = w.iter s pos ∧ Hid (decsB s.data.toList = decsB (s.data.toList.drop pos))) (fun _ wr => s.size - wr.iterPos w.heap.size)
  case atStart => exact ⟨0, Nat.zero_le _, rfl, rfl⟩
  case round =>
    obtain ⟨pos, hpos, rfl, HP⟩ := hrel
    by_cases hp : pos < s.size
    · have hst := HP.out.trans (decs_step s pos hp)
      have hb : ∀ q, Below w.heap.size w (w.iter s q) := fun q => (Below.refl _ _).alloc (Nat.le_refl _) _
      by_cases hok : decB s[pos] = true
      · have ha : (s[pos]'hp).toNat < 128 := by have := (decB_iff _).1 hok; omega
        have hnx : ∀ ty, (Instr.next (.pointer (some ⟨w.heap.size, 0, none⟩)) true ty).run Tryd.prog (w.iter s pos) = _ := fun ty => run_next_ascii w s pos ty hp ha
        rw [hok, Bool.true_and] at hst
        have HST : Hid (decsB s.data.toList = decsB (s.data.toList.drop (pos + 1))) := hst
        obtain ⟨h1, h2⟩ := (decB_iff _).1 hok
        clear hst HP hok
        go_wp2
        go_roundw
        case rel => exact ⟨pos + 1, by omega, rfl, HST⟩
        case measure => simp; omega
      · have hok' : decB s[pos] = false := by simpa using hok
        rw [hok', Bool.false_and] at hst
        have HST : Hid (decsB s.data.toList = false) := hst
        have hc : ¬ (48 ≤ ((s[pos]'hp).toNat : Int) ∧ ((s[pos]'hp).toNat : Int) ≤ 57) := fun h => hok ((decB_iff _).2 h)
        clear hst HP hok hok'
        by_cases ha : (s[pos]'hp).toNat < 128
        · have hnx : ∀ ty, (Instr.next (.pointer (some ⟨w.heap.size, 0, none⟩)) true ty).run Tryd.prog (w.iter s pos) = _ := fun ty => run_next_ascii w s pos ty hp ha
          by_cases h1 : ((s[pos]'hp).toNat : Int) < 48
          · clear hc
            go_wp2
            go_ret
            exact ⟨by rw [HST.out, Bool.false_and]; first | done | rfl, hb _⟩
          · have h2 : (57 : Int) < ((s[pos]'hp).toNat : Int) := by omega
            clear hc
            go_wp2
            go_ret
            exact ⟨by rw [HST.out, Bool.false_and]; first | done | rfl, hb _⟩
        · have hnx : ∀ ty, (Instr.next (.pointer (some ⟨w.heap.size, 0, none⟩)) true ty).run Tryd.prog (w.iter s pos) = _ := fun ty => run_next_any w s pos ty hp
          have hd := (decode_high s pos hp (by omega)).1
          obtain ⟨d, hdd⟩ : ∃ d, d = (Utf8.decode s pos).1 := ⟨_, rfl⟩
          rw [← hdd] at hd hnx
          have h1 : ¬ (d : Int) < 48 := by omega
          have h2 : (57 : Int) < (d : Int) := by omega
          clear hc hdd
          go_wp2
          go_ret
          exact ⟨by rw [HST.out, Bool.false_and]; first | done | rfl, hb _⟩
    · have hnx : ∀ ty, (Instr.next (.pointer (some ⟨w.heap.size, 0, none⟩)) true ty).run Tryd.prog (w.iter s pos) = _ := fun ty => run_next_end w s pos ty hp
      have HT : Hid (decsB s.data.toList = true) := by
        have := HP.out
        rw [drop_end s pos hp] at this
        exact this
      clear HP
      go_wp2
      go_ret
      refine ⟨?_, (Below.refl _ _).alloc (Nat.le_refl _) _⟩
      rw [HT.out, Bool.true_and]
      rw [ByteArray.toList_eq]; rfl
end Go.Proofs.YtlbabhddjdhalaaDoor
