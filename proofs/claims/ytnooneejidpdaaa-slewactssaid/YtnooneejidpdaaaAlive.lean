/- The document's example, and a rate of any number. -/
import Derived.Test.YtnooneejidpdaaaAdj
namespace Go.Proofs.Ytnooneejidpdaaa
open Go.RowKit

theorem rate_any (n : Int) (w : World) (h1 : 0 ≤ n) (h2 : n < 65536) : Calls Try.prog 20 #[.int .u16 n] w fun e w' => e = .returned (.int .i64 (1 + n % 500)) ∧ w = w' := by
  go_enter Try.func20, Try.ntmps20
  go_wp2
  go_ret
  exact ⟨rfl, rfl⟩

def ka : Ck := ⟨500, 0, 0, 3, 0⟩
theorem ka_ok : ka.Ok := by constructor <;> simp only [ka] <;> omega
theorem alive_adj (b : Nat) (w : World) (hc : Clk 64 w b ⟨500, 0, 0, 0, 0⟩) : Calls Try.prog 13 #[.pointer (some ⟨b, 0, none⟩), .int .i64 0, .int .i64 3] w fun e w' => e = .returned (.int .i64 0) ∧ Clk 64 w' b ka ∧ But b w w' :=
  adjust_any b ⟨500, 0, 0, 0, 0⟩ 0 w hc (ok_new (by omega) (by omega) (by omega) (by omega) (by omega) (by omega)) 3
theorem alive_r1 (b : Nat) (w : World) (hc : Clk 64 w b ka) : Calls Try.prog 15 #[.pointer (some ⟨b, 0, none⟩), .int .i64 2000] w fun e w' => e = .returned (.tuple #[.int .i64 2001, .int .i64 0]) ∧ Below w.heap.size w w' := read_any b ka 2000 w hc ka_ok
theorem alive_r2 (b : Nat) (w : World) (hc : Clk 64 w b ka) : Calls Try.prog 15 #[.pointer (some ⟨b, 0, none⟩), .int .i64 10000] w fun e w' => e = .returned (.tuple #[.int .i64 10003, .int .i64 0]) ∧ Below w.heap.size w w' := read_any b ka 10000 w hc ka_ok
theorem alive_l (b : Nat) (w : World) (hc : Clk 64 w b ka) : Calls Try.prog 16 #[.pointer (some ⟨b, 0, none⟩), .int .i64 4000] w fun e w' => e = .returned (.tuple #[.int .i64 1, .int .i64 0]) ∧ Below w.heap.size w w' := left_any b ka 4000 w hc ka_ok
theorem alive_any (w : World) : Calls Try.prog 12 #[] w fun e w' => e = .returned (.bool true) ∧ Below w.heap.size w w' := by
  have KN := Lib.hid (new_ok 0 0 500 w ⟨by omega, by omega, by omega, by omega, by omega, by omega⟩)
  have KA := Lib.hid (fun w1 => alive_adj w.heap.size w1)
  have K1 := Lib.hid (fun w1 => alive_r1 w.heap.size w1)
  have K2 := Lib.hid (fun w1 => alive_r2 w.heap.size w1)
  have K3 := Lib.hid (fun w1 => alive_l w.heap.size w1)
  go_enter Try.func12, Try.ntmps12
  go_wp2_with fail
  refine KN.out.mono ?_
  rintro e w1 ⟨rfl, hc1, hb1⟩
  have H1 := Lib.hid (And.intro hc1 hb1)
  clear hc1 hb1
  go_wp2_with fail
  refine (KA.out _ H1.out.1).mono ?_
  rintro e w2 ⟨rfl, hc2, hb2⟩
  have H2 := Lib.hid (And.intro hc2 (H1.out.2.trans (hb2.below H1.out.2.size (Nat.le_refl _))))
  clear hc2 hb2 H1
  go_wp2_with fail
  refine (K1.out _ H2.out.1).mono ?_
  rintro e w3 ⟨rfl, hb3⟩
  have H3 := Lib.hid (And.intro (H2.out.1.below hb3) (H2.out.2.trans (hb3.mono H2.out.2.size)))
  clear hb3 H2
  go_wp2_with fail
  refine (K2.out _ H3.out.1).mono ?_
  rintro e w4 ⟨rfl, hb4⟩
  have H4 := Lib.hid (And.intro (H3.out.1.below hb4) (H3.out.2.trans (hb4.mono H3.out.2.size)))
  clear hb4 H3
  go_wp2_with fail
  refine (K3.out _ H4.out.1).mono ?_
  rintro e w5 ⟨rfl, hb5⟩
  have H5 := Lib.hid (H4.out.2.trans (hb5.mono H4.out.2.size))
  clear hb5 H4
  go_wp2
  go_ret
  exact ⟨rfl, H5.out⟩
end Go.Proofs.Ytnooneejidpdaaa
