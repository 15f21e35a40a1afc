/- The calls of package sample that tell what an answer tells, and the document's: what each returns. -/
import Derived.Test.YtfknefpfekjnnaaDiff
namespace Go.Proofs.Ytfknefpfekjnnaa
open Go.RowKit

/-- How far the clock is behind the server's. -/
def offs (t0 t1 s0 s1 : Int) : Int := (nsf (way s0 (frm t0)) + nsf (way s1 (frm t1))) / 2
/-- How long it took, before what is below 0 is cut. -/
def took (t0 t1 s0 s1 : Int) : Int := stp (stp (t1 - t0) - nsf (way s1 s0))
/-- How long it took. -/
def tooks (t0 t1 s0 s1 : Int) : Int := if took t0 t1 s0 s1 < 0 then 0 else took t0 t1 s0 s1

theorem offset_any (t0 t1 s0 s1 : Int) (w : World) (h1 : -9223372036854775808 ≤ t0) (h2 : t0 ≤ 9223372036854775807) (h3 : -9223372036854775808 ≤ t1) (h4 : t1 ≤ 9223372036854775807) :
    Calls Try.prog 62 #[.int .i64 t0, .int .i64 t1, .int .u64 s0, .int .u64 s1] w fun e w' => e = .returned (.int .i64 (offs t0 t1 s0 s1)) ∧ Below w.heap.size w w' := by
  obtain ⟨g1, g2⟩ := dif_bd s0 (frm t0)
  obtain ⟨g3, g4⟩ := dif_bd s1 (frm t1)
  have F0 := Lib.hid (fun w => from_any t0 w h1 h2)
  have F1 := Lib.hid (fun w => from_any t1 w h3 h4)
  have D0 := Lib.hid (fun w => diff_any s0 (frm t0) w)
  have D1 := Lib.hid (fun w => diff_any s1 (frm t1) w)
  have M := Lib.hid (fun w => mid_any (nsf (way s0 (frm t0))) (nsf (way s1 (frm t1))) w (by omega) (by omega) (by omega) (by omega))
  go_enter Try.func62, Try.ntmps62
  go_wp2_with fail
  refine (F0.out _).mono ?_
  rintro e w1 ⟨rfl, hg1⟩
  go_wp2_with fail
  refine (D0.out _).mono ?_
  rintro e w2 ⟨rfl, hg2⟩
  go_wp2_with fail
  refine (F1.out _).mono ?_
  rintro e w3 ⟨rfl, hg3⟩
  go_wp2_with fail
  refine (D1.out _).mono ?_
  rintro e w4 ⟨rfl, hg4⟩
  go_wp2_with fail
  refine (M.out _).mono ?_
  rintro e w5 ⟨rfl, rfl⟩
  go_wp2
  go_ret
  exact ⟨rfl, bel_trans hg1 (bel_trans hg2 (bel_trans hg3 hg4))⟩

theorem delay_any (t0 t1 s0 s1 : Int) (w : World) (h1 : -9223372036854775808 ≤ t0) (h2 : t0 ≤ 9223372036854775807) (h3 : -9223372036854775808 ≤ t1) (h4 : t1 ≤ 9223372036854775807) :
    Calls Try.prog 63 #[.int .i64 t0, .int .i64 t1, .int .u64 s0, .int .u64 s1] w fun e w' => e = .returned (.int .i64 (tooks t0 t1 s0 s1)) ∧ Below w.heap.size w w' := by
  obtain ⟨g1, g2⟩ := dif_bd s1 s0
  obtain ⟨b1, b2⟩ := stp_bd (t1 - t0)
  have S0 := Lib.hid (fun w => sub_any t1 t0 w h3 h4 h1 h2)
  have D0 := Lib.hid (fun w => diff_any s1 s0 w)
  have S1 := (fun w => sub_any (stp (t1 - t0)) (nsf (way s1 s0)) w (by omega) (by omega) (by omega) (by omega))
  have ht : took t0 t1 s0 s1 = stp (stp (t1 - t0) - nsf (way s1 s0)) := rfl
  rw [← ht] at S1
  have K1 := Lib.hid S1
  clear S1 ht
  have hk : tooks t0 t1 s0 s1 = if took t0 t1 s0 s1 < 0 then 0 else took t0 t1 s0 s1 := rfl
  have HK := Lib.hid hk
  clear hk
  generalize took t0 t1 s0 s1 = u at *
  generalize tooks t0 t1 s0 s1 = v at *
  go_enter Try.func63, Try.ntmps63
  go_wp2_with fail
  refine (S0.out _).mono ?_
  rintro e w1 ⟨rfl, rfl⟩
  go_wp2_with fail
  refine (D0.out _).mono ?_
  rintro e w2 ⟨rfl, hg2⟩
  go_wp2_with fail
  refine (K1.out _).mono ?_
  rintro e w3 ⟨rfl, rfl⟩
  go_wp2
  all_goals
    go_ret
    refine ⟨ret_int ?_, hg2⟩
    rw [HK.out]
    repeat (first | omega | split)

theorem make_any (t0 t1 s0 s1 : Int) (w : World) (h1 : -9223372036854775808 ≤ t0) (h2 : t0 ≤ 9223372036854775807) (h3 : -9223372036854775808 ≤ t1) (h4 : t1 ≤ 9223372036854775807) :
    Calls Try.prog 44 #[.int .i64 t0, .int .i64 t1, .int .u64 s0, .int .u64 s1] w fun e w' => e = .returned (.tuple #[.int .i64 (offs t0 t1 s0 s1), .int .i64 (tooks t0 t1 s0 s1)]) ∧ Below w.heap.size w w' := by
  have O := Lib.hid (fun w => offset_any t0 t1 s0 s1 w h1 h2 h3 h4)
  have D := Lib.hid (fun w => delay_any t0 t1 s0 s1 w h1 h2 h3 h4)
  go_enter Try.func44, Try.ntmps44
  go_wp2_with fail
  refine (O.out _).mono ?_
  rintro e w1 ⟨rfl, hg1⟩
  go_wp2_with fail
  refine (D.out _).mono ?_
  rintro e w2 ⟨rfl, hg2⟩
  go_wp2
  go_ret2
  exact ⟨rfl, bel_trans hg1 hg2⟩

theorem rmake_any (t0 t1 s0 s1 : Int) (w : World) (h1 : -9223372036854775808 ≤ t0) (h2 : t0 ≤ 9223372036854775807) (h3 : -9223372036854775808 ≤ t1) (h4 : t1 ≤ 9223372036854775807) :
    Calls Try.prog 46 #[.int .i64 t0, .int .i64 t1, .int .u64 s0, .int .u64 s1] w fun e w' => e = .returned (.tuple #[.int .i64 (offs t0 t1 s0 s1), .int .i64 (tooks t0 t1 s0 s1)]) ∧ w = w' := by
  obtain ⟨g1, g2⟩ := dif_bd s0 (frm t0)
  obtain ⟨g3, g4⟩ := dif_bd s1 (frm t1)
  obtain ⟨g5, g6⟩ := dif_bd s1 s0
  obtain ⟨b1, b2⟩ := stp_bd (t1 - t0)
  have F0 := Lib.hid (fun w => rfrom_any t0 w h1 h2)
  have F1 := Lib.hid (fun w => rfrom_any t1 w h3 h4)
  have D0 := Lib.hid (fun w => rdiff_any s0 (frm t0) w)
  have D1 := Lib.hid (fun w => rdiff_any s1 (frm t1) w)
  have D2 := Lib.hid (fun w => rdiff_any s1 s0 w)
  have M := (fun w => rmid_any (nsf (way s0 (frm t0))) (nsf (way s1 (frm t1))) w (by omega) (by omega) (by omega) (by omega))
  rw [show (nsf (way s0 (frm t0)) + nsf (way s1 (frm t1))) / 2 = offs t0 t1 s0 s1 from rfl] at M
  have KM := Lib.hid M
  clear M
  have S0 := Lib.hid (fun w => rsub_any t1 t0 w h3 h4 h1 h2)
  have S1 := (fun w => rsub_any (stp (t1 - t0)) (nsf (way s1 s0)) w (by omega) (by omega) (by omega) (by omega))
  rw [show stp (stp (t1 - t0) - nsf (way s1 s0)) = took t0 t1 s0 s1 from rfl] at S1
  have K1 := Lib.hid S1
  clear S1
  have hk : tooks t0 t1 s0 s1 = if took t0 t1 s0 s1 < 0 then 0 else took t0 t1 s0 s1 := rfl
  have HK := Lib.hid hk
  clear hk
  generalize took t0 t1 s0 s1 = u at *
  generalize tooks t0 t1 s0 s1 = v at *
  go_enter Try.func46, Try.ntmps46
  go_wp2_with fail
  refine (F0.out _).mono ?_
  rintro e w1 ⟨rfl, rfl⟩
  go_wp2_with fail
  refine (D0.out _).mono ?_
  rintro e w1 ⟨rfl, rfl⟩
  go_wp2_with fail
  refine (F1.out _).mono ?_
  rintro e w1 ⟨rfl, rfl⟩
  go_wp2_with fail
  refine (D1.out _).mono ?_
  rintro e w1 ⟨rfl, rfl⟩
  go_wp2_with fail
  refine (S0.out _).mono ?_
  rintro e w1 ⟨rfl, rfl⟩
  go_wp2_with fail
  refine (D2.out _).mono ?_
  rintro e w1 ⟨rfl, rfl⟩
  go_wp2_with fail
  refine (K1.out _).mono ?_
  rintro e w1 ⟨rfl, rfl⟩
  go_wp2_with fail
  all_goals
    refine (KM.out _).mono ?_
    rintro e w1 ⟨rfl, rfl⟩
    go_wp2
    go_ret2
    refine ⟨?_, rfl⟩
    rw [HK.out]
    first
    | rw [if_pos (by omega)]; rfl
    | rw [if_neg (by omega)]; rfl

end Go.Proofs.Ytfknefpfekjnnaa
