/- alive: the document's example. -/
import Derived.Test.YtlbabhddjdhalaaDoorParse
namespace Go.Proofs.YtlbabhddjdhalaaDoor
open Go.RowKit Go.Proofs.Lx

def exText : ByteArray := ⟨#[115, 101, 114, 118, 101, 114, 32, 55, 10, 113, 117, 111, 114, 117, 109, 32, 49, 10, 112, 111, 108, 108, 32, 52, 32, 49, 54, 10, 100, 101, 108, 97, 121, 32, 49, 48, 48, 48, 10, 115, 108, 101, 119, 32, 53, 48, 48]⟩
theorem example_parse : parseOf exText.data.toList = (⟨[7], 1, 4, 16, 1000, 500⟩, 0, 0) := by
  have h : outOf exText.data.toList = ([(1, [wServer, [55]]), (2, [wQuorum, [49]]), (3, [wPoll, [52], [49, 54]]), (4, [wDelay, [49, 48, 48, 48]]), (5, [wSlew, [53, 48, 48]])], 0, 0) := by decide +kernel
  have h2 : runL St.none [(1, [wServer, [55]]), (2, [wQuorum, [49]]), (3, [wPoll, [52], [49, 54]]), (4, [wDelay, [49, 48, 48, 48]]), (5, [wSlew, [53, 48, 48]])] = (⟨[7], 1, 4, 16, 1000, 500⟩, 0, 0) := by kernel_rfl
  rw [parse_ok _ (by rw [h]), h]
  exact h2
set_option maxRecDepth 100000 in
set_option maxHeartbeats 4000000 in
theorem alive_any (w : World) (hm : Mx w) :
    Calls Tryd.prog 10 #[] w fun e w' => e = .returned (.bool true) ∧ Below w.heap.size w w' := by
  have K : Hid (Calls Tryd.prog 17 #[.string exText] w fun e w' => ∃ g c, e = .returned (.tuple #[.agg #[.slice (some ⟨g, 0, none⟩) 1 c, .int .i64 1, .int .i64 4, .int .i64 16, .int .i64 1000, .int .i64 500], .int .i64 0, .int .i64 0]) ∧ w'.cell? ⟨g, 0, none⟩ = some (.int .i64 7) ∧ g < w'.heap.size ∧ 1 ≤ c ∧ Below w.heap.size w w') := by
    refine (parse_any exText w (by decide) hm).mono ?_
    rintro e w' ⟨v, h1, h2, h3⟩
    rw [example_parse] at h1 h2
    obtain ⟨g, c, rfl, hc, hg, _, hcell⟩ := own_cells h2 (by decide)
    exact ⟨g, c, h1, hcell 0 _ rfl, hg, hc, h3⟩
  unfold exText at K
  clear hm
  go_enter Tryd.func10, Tryd.ntmps10
  go_wp2_with (go_at_call 17; refine K.out.mono ?_; rintro e w1 ⟨g, c, rfl, hcell, hg, hc, hb1⟩)
  go_ret
  exact ⟨rfl, hb1.alloc hb1.size _⟩
end Go.Proofs.YtlbabhddjdhalaaDoor
