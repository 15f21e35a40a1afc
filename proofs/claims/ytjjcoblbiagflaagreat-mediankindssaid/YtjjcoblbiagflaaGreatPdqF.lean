/- pdqsortOrdered at float64 (laid by genpdq.py). -/
import Derived.Test.YtjjcoblbiagflaaGreatRd
import Derived.Test.YtjjcoblbiagflaaGreatInsF
import Derived.Test.YtjjcoblbiagflaaGreatHeapF
import Derived.Test.YtjjcoblbiagflaaGreatPeqF
import Derived.Test.YtjjcoblbiagflaaGreatPinsF
import Derived.Test.YtjjcoblbiagflaaGreatRevF
import Derived.Test.YtjjcoblbiagflaaGreatPivF
import Derived.Test.YtjjcoblbiagflaaGreatBrkF
namespace Go.Proofs.YtjjcoblbiagflaaGreat.kf
open Go.RowKit

set_option maxRecDepth 100000 in
set_option maxHeartbeats 16000000 in
theorem pdq_any (SW : Sort.SWO lt) (NP : ∀ n : Nat, n < 4611686018427387904 → ∀ w, Calls Tryz.prog 82 #[.int .i64 n] w fun e w' => e = .returned (.int .u64 ((1 <<< Sort.bitsLen n : Nat) : Int)) ∧ w' = w)
    (NX : ∀ rb X : Nat, X < 18446744073709551616 → ∀ w, w.cell? ⟨rb, 0, none⟩ = some (.int .u64 X) → w.frozen? ⟨rb, 0, none⟩ = false → Calls Tryz.prog 83 #[.pointer (some ⟨rb, 0, none⟩)] w fun e w' => e = .returned (.int .u64 (Sort.xorNextN X : Nat)) ∧ w' = (w.setCell ⟨rb, 0, none⟩ (.int .u64 (Sort.xorNextN X : Nat))).drewN 3) :
    ∀ (N B n cap a b limit : Nat) (tl : Array Value) (d : Array A) (w : World), b - a < N → Rw enc T tl w B d → d.size = n → n ≤ 1000000 → a ≤ b → b ≤ n → limit ≤ 1000 → Sort.Below lt a b d →
    Calls Tryz.prog 30 #[.slice (some ⟨B, 0, none⟩) n cap, .int .i64 a, .int .i64 b, .int .i64 limit] w fun e w' => e = .returned (.tuple #[]) ∧ Rw enc T tl w' B (Sort.pdq lt d a b limit true true) ∧ But B w w' := by
  intro N
  induction N with
  | zero => intro _ _ _ _ _ _ _ _ _ h; exact absurd h (Nat.not_lt_zero _)
  | succ N ih =>
    intro B n cap a b limit tl d w hN h hn hs hab hb hl hB
    have IH := Lib.hid ih
    have R0 := Lib.hid (And.intro h (And.intro (But.refl B w) hn))
    have HB := Lib.hid hB
    obtain ⟨D, hD⟩ : ∃ D, D = Sort.pdq lt d a b limit true true := ⟨_, rfl⟩
    have HD := Lib.hid hD
    rw [← hD]
    have KL := Lib.hid less_any
    have KI := Lib.hid (fun a b d w h hn hab hb => ins_any B n cap a b tl d w h hn hs hab hb)
    have KH := Lib.hid (fun a b d w h hn hab hb => heap_any B n cap a b tl d w h hn hs hab hb)
    have KB := Lib.hid (fun a b d w h hn hab hb => brk_any NP NX B n cap a b tl d w h hn hs hab hb)
    have KP := Lib.hid (fun a b d w h hn hab hb => pivot_any B n cap a b tl d w h hn hs hab hb)
    have KR := Lib.hid (fun a b d w h hn hab hb => rev_any B n cap a b tl d w h hn hs hab hb)
    have KQ := Lib.hid (fun a b d w h hn hab hb => pins_any B n cap a b tl d w h hn hs hab hb)
    have KT := Lib.hid (fun a b p d w h hn hap hpb hb => partition_any B n cap a b p tl d w h hn hs hap hpb hb)
    have KE := Lib.hid (fun a b p d w h hn hap hpb hb => partitionEqual_any B n cap a b p tl d w h hn hs hap hpb hb)
    have HSW := Lib.hid SW
    clear ih h hn hB hD NP NX SW
    go_enter Tryz.func30, Tryz.ntmps30
    go_wp2
    go_loopg [1, 2, 3, 8, 9] (b - a) (fun g s1 s2 s3 s8 s9 wr => ∃ (a' b' lim : Nat) (wb wp : Bool) (dk : Array A), s1 = .int .i64 (a' : Int) ∧ s2 = .int .i64 (b' : Int) ∧ s3 = .int .i64 (lim : Int) ∧ s8 = .bool wb ∧ s9 = .bool wp ∧ a' ≤ b' ∧ b' ≤ n ∧ b' - a' ≤ g ∧ g ≤ b - a ∧ lim ≤ limit ∧ Hid (Sort.Below lt a' b' dk) ∧ Hid (D = Sort.pdq lt dk a' b' lim wb wp) ∧ Hid (Rw enc T tl wr B dk ∧ But B w wr ∧ dk.size = n))
    case atStart => exact ⟨a, b, limit, true, true, d, rfl, rfl, rfl, rfl, rfl, hab, hb, Nat.le_refl _, Nat.le_refl _, Nat.le_refl _, HB, HD, R0⟩
    case round =>
      clear R0 HB HD
      obtain ⟨a', b', lim, wb, wp, dk, rfl, rfl, rfl, rfl, rfl, hab', hb', hg, hgN, hlim, HB, HD, R⟩ := hrel
      obtain ⟨L, hL⟩ : ∃ L, b' - a' = L := ⟨_, rfl⟩
      have hw1 : IntKind.i64.wrap ((b' : Int) - (a' : Int)) = (L : Int) := by rw [IntWalk.i64_in _ (by omega)]; omega
      by_cases h12 : L ≤ 12
      · have hd1 : decide ((L : Int) ≤ 12) = true := decide_eq_true (by omega)
        have HE := Lib.hid (HD.out.trans (Sort.pdq_small (by omega)))
        have K1 := Lib.hid (KI.out a' b' dk wr R.out.1 R.out.2.2 hab' hb')
        clear IH HB HD KL KI KH KB KP KR KQ KT KE HSW
        go_wp2_with fail
        refine K1.out.mono ?_
        rintro e w1 ⟨rfl, g1, g2⟩
        have G := Lib.hid (And.intro g1 (R.out.2.1.trans g2))
        clear g1 g2 K1 R
        go_wp2
        first | go_end0 | ((try simp only [Exit.inBlock, Exit.then]); refine bodyPost_ret (results_none rfl _ _ _) rfl ?_)
        rw [HE.out]
        exact ⟨rfl, G.out.1, G.out.2⟩
      have hd1 : decide ((L : Int) ≤ 12) = false := decide_eq_false (by omega)
      by_cases hl0 : lim = 0
      · have HE := Lib.hid (HD.out.trans (Sort.pdq_heap (by omega) hl0))
        have hl0z : (lim : Int) = 0 := by omega
        have K1 := Lib.hid (KH.out a' b' dk wr R.out.1 R.out.2.2 (by omega) hb')
        clear IH HB HD KL KI KH KB KP KR KQ KT KE HSW hl0
        go_wp2_with fail
        refine K1.out.mono ?_
        rintro e w1 ⟨rfl, g1, g2⟩
        have G := Lib.hid (And.intro g1 (R.out.2.1.trans g2))
        clear g1 g2 K1 R
        go_wp2
        first | go_end0 | ((try simp only [Exit.inBlock, Exit.then]); refine bodyPost_ret (results_none rfl _ _ _) rfl ?_)
        rw [HE.out]
        exact ⟨rfl, G.out.1, G.out.2⟩
      have hl0z : ¬ ((lim : Int) = 0) := by omega
      obtain ⟨d1, lim1, p1, h1, d2, pv, ht, d3, dn, f⟩ := rd_spec HSW.out lim wb wp (show a' < b' by omega) (show b' ≤ dk.size by have := R.out.2.2; omega) HB.out
      obtain ⟨sk, q1, q2, q3⟩ : dk.size = n ∧ d1.size = n ∧ d2.size = n ∧ d3.size = n := ⟨R.out.2.2, f.s1.trans R.out.2.2, f.s2.trans R.out.2.2, f.s3.trans R.out.2.2⟩
      have rp := f.rp
      have rv := f.rv
      have rl := f.rl
      have F := Lib.hid f
      have Q1 := Lib.hid q1
      have Q2 := Lib.hid q2
      have Q3 := Lib.hid q3
      have SK := Lib.hid sk
      clear HB KI KH f q1 q2 q3 sk HSW
      go_upto_if 35 with fail
      go_cut [3] from 19 to 133 (fun s3 wc => s3 = .int .i64 (lim1 : Int) ∧ Hid (Rw enc T tl wc B d1 ∧ But B w wc))
      case first =>
        have f0 := F.out.brk
        have f1 := F.out.nobrk
        clear F KL KP KR KQ KT KE IH HD
        cases wb with
        | false =>
          have f2 := f0 rfl
          have hlm : (lim1 : Int) = (lim : Int) - 1 := by omega
          have K1 := Lib.hid (KB.out a' b' dk wr R.out.1 R.out.2.2 (by omega) hb')
          rw [← f2.1] at K1
          clear f0 f1 f2 KB
          go_wp2_with fail
          refine K1.out.mono ?_
          rintro e w1 ⟨rfl, g1, g2⟩
          have G := Lib.hid (And.intro g1 (R.out.2.1.trans g2))
          clear g1 g2 K1 R
          go_wp2
          go_meet
          case rel => exact ⟨by rw [hlm], G⟩
        | true =>
          have f2 := f1 rfl
          have G := Lib.hid (And.intro R.out.1 R.out.2.1)
          rw [← f2.1] at G
          have hlm : lim1 = lim := f2.2
          clear f0 f1 f2 KB R
          go_wp2_with fail
          go_meet
          case rel => exact ⟨by rw [hlm], G⟩
      case rest =>
        clear R KB
        obtain ⟨rfl, R⟩ := hcut
        have K1 := Lib.hid ((KP.out a' b' d1 wc R.out.1 Q1.out (by omega) hb').mono (R' := fun e w' => e = .returned (.tuple #[.int .i64 (p1 : Nat), .int .i64 (hcode h1)]) ∧ Rw enc T tl w' B d1 ∧ But B wc w') (fun e w' hh => by
          obtain ⟨x, ht', e1, e2, e3, e4⟩ := hh
          rw [F.out.piv] at e1
          cases e1
          exact ⟨e2, e3, e4⟩))
        clear KP
        go_upto_if 50 with fail
        refine K1.out.mono ?_
        rintro e w1 ⟨rfl, g1, g2⟩
        have G := Lib.hid (And.intro g1 (R.out.2.trans g2))
        clear g1 g2 K1 R
        go_upto_if 50 with fail
        go_cut [11, 12] from 19 to 133 (fun s11 s12 wc => s11 = .int .i64 (pv : Int) ∧ s12 = .int .i64 (hcode ht) ∧ Hid (Rw enc T tl wc B d2 ∧ But B w wc))
        case first =>
          have f0 := F.out.rev
          have f1 := F.out.norev
          clear F KL KQ KT KE IH HD
          by_cases hh : h1 = .decreasing
          · have f2 := f0 hh
            have hc2 : hcode h1 = 2 := by rw [hh]; rfl
            have hht : hcode ht = 1 := by rw [f2.2.2]; rfl
            obtain ⟨y, hy⟩ : ∃ y, p1 - a' = y := ⟨_, rfl⟩
            have hy1 : IntKind.i64.wrap ((p1 : Int) - (a' : Int)) = (y : Int) := by rw [IntWalk.i64_in _ (by omega)]; omega
            have hpv := f2.2.1
            have hy2 : IntKind.i64.wrap ((b' : Int) - 1 - (y : Int)) = (pv : Int) := by rw [IntWalk.i64_in _ (by omega)]; omega
            have K1 := Lib.hid (KR.out a' b' d1 w1 G.out.1 Q1.out (by omega) hb')
            rw [← f2.1] at K1
            clear f0 f1 f2 KR hh hpv
            go_wp2_with fail
            refine K1.out.mono ?_
            rintro e w2 ⟨rfl, g1, g2⟩
            have G2 := Lib.hid (And.intro g1 (G.out.2.trans g2))
            clear g1 g2 K1 G
            go_wp2
            go_meet
            case rel => exact ⟨rfl, by rw [hht], G2⟩
          · have f2 := f1 hh
            have hc2 : ¬ (hcode h1 = 2) := by intro hx; apply hh; cases h1 <;> simp [hcode] at hx ⊢
            have G2 := G
            rw [← f2.1] at G2
            have e1 := f2.2.1
            have e2 := f2.2.2
            have E := Lib.hid (And.intro e1 e2)
            clear f0 f1 f2 KR hh G e1 e2
            go_wp2_with fail
            go_meet
            case rel => exact ⟨by rw [E.out.1], by rw [E.out.2], G2⟩
        case rest =>
          clear G KR
          obtain ⟨rfl, rfl, R⟩ := hcut
          go_upto_region 15 with fail
          go_cut [12, 68] from 19 to 133 (fun s12 s68 wx => s12 = .int .i64 (hcode ht) ∧ s68 = .bool (wb && wp && decide (ht = .increasing)) ∧ wx = wc)
          case first =>
            clear F KL KQ KT KE IH HD R
            have hh3 : (ht = .unknown ∧ hcode ht = 0) ∨ (ht = .increasing ∧ hcode ht = 1) ∨ (ht = .decreasing ∧ hcode ht = 2) := by cases ht <;> simp [hcode]
            cases wb <;> cases wp <;> rcases hh3 with ⟨hh3, hcode3⟩ | ⟨hh3, hcode3⟩ | ⟨hh3, hcode3⟩ <;>
              (have HH := Lib.hid (And.intro hh3 hcode3)
               clear hh3
               go_wp2_with fail
               go_meet
               exact ⟨by rw [HH.out.2], by simp [HH.out.1], rfl⟩)
          case rest =>
            obtain ⟨rfl, rfl, rfl⟩ := hcut
            go_upto_if 68 with fail
            go_cut [] from 19 to 133 (fun wx => dn = false ∧ Hid (Rw enc T tl wx B d3 ∧ But B w wx))
            case first =>
              have f0 := F.out.par
              have f1 := F.out.nopar
              have f2 := F.out.done (by omega) hl0
              clear F KL KT KE IH
              cases h68 : (wb && wp && decide (ht = .increasing)) with
              | false =>
                have f3 := f1 h68
                have G := R
                rw [← f3.1] at G
                have E := Lib.hid f3.2
                clear f0 f1 f2 f3 KQ HD R
                go_wp2_with fail
                go_meet
                case rel => exact ⟨E.out, G⟩
              | true =>
                have K1 := Lib.hid (KQ.out a' b' d2 _ R.out.1 Q2.out (by omega) hb')
                rw [f0 h68] at K1
                have f4 := Lib.hid f2
                clear f0 f1 f2 KQ
                cases dn with
                | false =>
                  clear f4 HD
                  go_wp2_with fail
                  refine K1.out.mono ?_
                  rintro e w2 ⟨rfl, g1, g2⟩
                  have G2 := Lib.hid (And.intro g1 (R.out.2.trans g2))
                  clear g1 g2 K1 R
                  go_wp2
                  go_meet
                  case rel => exact ⟨by first | rfl | trivial, G2⟩
                | true =>
                  have HE := Lib.hid (HD.out.trans (f4.out rfl))
                  clear f4 HD
                  go_wp2_with fail
                  refine K1.out.mono ?_
                  rintro e w2 ⟨rfl, g1, g2⟩
                  have G2 := Lib.hid (And.intro g1 (R.out.2.trans g2))
                  clear g1 g2 K1 R
                  go_wp2
                  first | go_end0 | ((try simp only [Exit.inBlock, Exit.then]); refine bodyPost_ret (results_none rfl _ _ _) rfl ?_)
                  rw [HE.out]
                  exact ⟨rfl, G2.out.1, G2.out.2⟩
            case rest =>
              clear R KQ
              obtain ⟨hdn, R0⟩ := hcut
              have HDN := Lib.hid hdn
              have hsz := Q3.out
              have R := Lib.hid (And.intro R0.out.1 (And.intro R0.out.2 hsz))
              clear hdn R0
              obtain ⟨c87, hc87⟩ : ∃ c, (decide (a' > 0) && !lt d3[a' - 1]! d3[pv]!) = c := ⟨_, rfl⟩
              have HC := Lib.hid hc87
              clear hc87
              go_upto_region 17 with fail
              go_cut [87] from 19 to 133 (fun s87 wx => s87 = .bool c87 ∧ Hid (Rw enc T tl wx B d3 ∧ But B w wx ∧ d3.size = n))
              case first =>
                clear F KT KE IH HD
                by_cases ha0 : 0 < a'
                · obtain ⟨k, hk⟩ : ∃ k, a' = k + 1 := ⟨a' - 1, by omega⟩
                  have hk1 : IntKind.i64.wrap ((a' : Int) - 1) = (k : Int) := by rw [IntWalk.i64_in _ (by omega)]; omega
                  have hd2 : decide ((0 : Int) < (a' : Int)) = true := decide_eq_true (by omega)
                  obtain ⟨cc, c1⟩ : ∃ cc, lt d3[k]! d3[pv]! = cc := ⟨_, rfl⟩
                  have E : Hid (c87 = !cc) := Lib.hid (by rw [← HC.out, ← c1, hk]; simp)
                  clear HC
                  obtain ⟨x1, hx1⟩ := enc_ex d3[k]!
                  obtain ⟨x2, hx2⟩ := enc_ex d3[pv]!
                  have fx1 : wc.cell? ⟨B, k, none⟩ = some (.float .f64 x1) := by rw [← hx1]; exact R.out.1.cell (k) (by omega)
                  have fx2 : wc.cell? ⟨B, pv, none⟩ = some (.float .f64 x2) := by rw [← hx2]; exact R.out.1.cell (pv) (by omega)
                  have ex1 := fun d os => cell_regrown fx1 d os
                  have ex2 := fun d os => cell_regrown fx2 d os
                  have r1K := Lib.hid (fun w => KL.out d3[k]! d3[pv]! w)
                  rw [hx1, hx2, c1] at r1K
                  have r1 := fun d' os => Calls.regrown_of (w := wc) (d := d') (os := os) ((r1K.out _).mono fun _ _ h => ⟨h.1, by rw [h.2]; exact Below.refl _ _⟩)
                  clear hx1 hx2 fx1 fx2 r1K
                  go_wp2
                  refine wp_region_quiet_below (by kernel_rfl) (by kernel_rfl) ?_
                  repeat (go_big_quiet_step (with_reducible exact r1 _ _))
                  refine wpQuiet_nil ?_
                  intro W1 hw'
                  have hbW1 : Below wc.heap.size wc W1 := by
                    obtain ⟨⟨dq, osq⟩, hw''⟩ := hw'
                    rw [hw'']; exact below_regrown _ dq osq
                  have R3 := Lib.hid (And.intro (R.out.1.below hbW1) (And.intro (R.out.2.1.trans (But.of_below hbW1)) R.out.2.2))
                  clear hw' hbW1 R r1 ex1 ex2 c1 KL
                  go_wp2_with fail
                  go_meet
                  case rel => exact ⟨by rw [E.out], R3⟩
                · have hd2 : decide ((0 : Int) < (a' : Int)) = false := decide_eq_false (by omega)
                  have E : Hid (c87 = false) := Lib.hid (by rw [← HC.out]; simp [ha0])
                  clear HC
                  go_wp2
                  refine wp_region_quiet_below (by kernel_rfl) (by kernel_rfl) ?_
                  repeat (go_big_quiet_step (fail))
                  refine wpQuiet_nil ?_
                  intro W1 hw'
                  have hbW1 : Below wc.heap.size wc W1 := by
                    obtain ⟨⟨dq, osq⟩, hw''⟩ := hw'
                    rw [hw'']; exact below_regrown _ dq osq
                  have R3 := Lib.hid (And.intro (R.out.1.below hbW1) (And.intro (R.out.2.1.trans (But.of_below hbW1)) R.out.2.2))
                  clear hw' hbW1 R KL
                  go_wp2_with fail
                  go_meet
                  case rel => exact ⟨by rw [E.out], R3⟩
              case rest =>
                clear R KL
                obtain ⟨rfl, R⟩ := hcut
                cases c87 with
                | false =>
                  obtain ⟨mid, ap, d4, hx⟩ : ∃ mid ap d4, Sort.partition lt d3 a' b' pv = (mid, ap, d4) := ⟨_, _, _, rfl⟩
                  obtain ⟨m1, m2, m3, m4, m5⟩ := F.out.parts mid ap d4 hx
                  have M4 := Lib.hid (And.intro m4 m5)
                  have M3 := Lib.hid (m3.trans SK.out)
                  have fl := Lib.hid (F.out.left (by omega) hl0 HDN.out HC.out mid ap d4 hx)
                  have fr := Lib.hid (F.out.right (by omega) hl0 HDN.out HC.out mid ap d4 hx)
                  have K1 := Lib.hid (KT.out a' b' pv d3 _ R.out.1 R.out.2.2 rv.1 rv.2 hb')
                  rw [hx] at K1
                  clear F HC hx m3 m4 m5 KT KE
                  obtain ⟨x1, hx1⟩ : ∃ x, mid - a' = x := ⟨_, rfl⟩
                  obtain ⟨x2, hx2⟩ : ∃ x, b' - mid = x := ⟨_, rfl⟩
                  obtain ⟨x8, hx8⟩ : ∃ x, L / 8 = x := ⟨_, rfl⟩
                  have hy1 : IntKind.i64.wrap ((mid : Int) - (a' : Int)) = (x1 : Int) := by rw [IntWalk.i64_in _ (by omega)]; omega
                  have hy2 : IntKind.i64.wrap ((b' : Int) - (mid : Int)) = (x2 : Int) := by rw [IntWalk.i64_in _ (by omega)]; omega
                  have hy8 : (L : Int).tdiv 8 = (x8 : Int) := by rw [Int.tdiv_eq_ediv_of_nonneg (by omega)]; omega
                  have hy9 : IntKind.i64.wrap (x8 : Int) = (x8 : Int) := IntWalk.i64_in _ (by omega)
                  by_cases h4 : x1 < x2
                  · have hd4 : decide ((x1 : Int) < (x2 : Int)) = true := decide_eq_true (by omega)
                    obtain ⟨wb2, hwb⟩ : ∃ z, decide ((b' - a') / 8 ≤ mid - a') = z := ⟨_, rfl⟩
                    have H8 : Hid (decide (x8 ≤ x1) = wb2) := Lib.hid (by rw [← hwb]; exact decide_eq_decide.2 (by omega))
                    obtain ⟨Rr, hRr⟩ : ∃ r, r = Sort.pdq lt d4 a' mid lim1 true true := ⟨_, rfl⟩
                    obtain ⟨z1, z2, z3⟩ := fl.out (by omega) Rr hRr
                    rw [hwb] at z3
                    have Z := Lib.hid (And.intro (z1.trans SK.out) (And.intro z2 (HD.out.trans z3)))
                    clear fl fr HD z1 z2 z3 hwb
                    go_wp2_with fail
                    refine K1.out.mono ?_
                    rintro e w2 ⟨rfl, g1, g2⟩
                    have K2 := Lib.hid (IH.out B n cap a' mid lim1 tl d4 w2 (by omega) g1 M3.out hs (by omega) (by omega) (by omega) M4.out.1)
                    rw [← hRr] at K2
                    have G := Lib.hid (R.out.2.1.trans g2)
                    clear g1 g2 K1 R hRr IH
                    go_wp2_with fail
                    refine K2.out.mono ?_
                    rintro e w3 ⟨rfl, g1, g2⟩
                    have G2 := Lib.hid (show Rw enc T tl w3 B Rr ∧ But B w w3 ∧ Rr.size = n from ⟨g1, G.out.trans g2, Z.out.1⟩)
                    clear g1 g2 K2 G
                    go_wp2
                    go_roundg (b' - (mid + 1))
                    case measure => omega
                    case rel => exact ⟨mid + 1, b', lim1, wb2, ap, Rr, by go_num, rfl, rfl, by rw [H8.out], rfl, by omega, by omega, Nat.le_refl _, by omega, by omega, Lib.hid Z.out.2.1, Lib.hid Z.out.2.2, G2⟩
                  · have hd4 : decide ((x1 : Int) < (x2 : Int)) = false := decide_eq_false (by omega)
                    obtain ⟨wb2, hwb⟩ : ∃ z, decide ((b' - a') / 8 ≤ b' - mid) = z := ⟨_, rfl⟩
                    have H8 : Hid (decide (x8 ≤ x2) = wb2) := Lib.hid (by rw [← hwb]; exact decide_eq_decide.2 (by omega))
                    obtain ⟨Rr, hRr⟩ : ∃ r, r = Sort.pdq lt d4 (mid + 1) b' lim1 true true := ⟨_, rfl⟩
                    obtain ⟨z1, z2, z3⟩ := fr.out (by omega) Rr hRr
                    rw [hwb] at z3
                    have Z := Lib.hid (And.intro (z1.trans SK.out) (And.intro z2 (HD.out.trans z3)))
                    clear fl fr HD z1 z2 z3 hwb
                    go_wp2_with fail
                    refine K1.out.mono ?_
                    rintro e w2 ⟨rfl, g1, g2⟩
                    have K2 := Lib.hid (IH.out B n cap (mid + 1) b' lim1 tl d4 w2 (by omega) g1 M3.out hs (by omega) (by omega) (by omega) M4.out.2)
                    rw [← hRr] at K2
                    have G := Lib.hid (R.out.2.1.trans g2)
                    clear g1 g2 K1 R hRr IH
                    go_wp2_with fail
                    refine K2.out.mono ?_
                    rintro e w3 ⟨rfl, g1, g2⟩
                    have G2 := Lib.hid (show Rw enc T tl w3 B Rr ∧ But B w w3 ∧ Rr.size = n from ⟨g1, G.out.trans g2, Z.out.1⟩)
                    clear g1 g2 K2 G
                    go_wp2
                    go_roundg (mid - a')
                    case measure => omega
                    case rel => exact ⟨a', mid, lim1, wb2, ap, Rr, rfl, rfl, rfl, by rw [H8.out], rfl, by omega, by omega, Nat.le_refl _, by omega, by omega, Lib.hid Z.out.2.1, Lib.hid Z.out.2.2, G2⟩
                | true =>
                  obtain ⟨mid, d4, hx⟩ : ∃ mid d4, Sort.partitionEqual lt d3 a' b' pv = (mid, d4) := ⟨_, _, rfl⟩
                  obtain ⟨m1, m2, m3, m4, m5⟩ := F.out.eq (by omega) hl0 HDN.out HC.out mid d4 hx
                  have M4 := Lib.hid m4
                  have M3 := Lib.hid (m3.trans SK.out)
                  have HE := Lib.hid (HD.out.trans m5)
                  have K1 := Lib.hid (KE.out a' b' pv d3 _ R.out.1 R.out.2.2 rv.1 rv.2 hb')
                  rw [hx] at K1
                  clear F HC hx m3 m4 m5 KT KE HD IH
                  go_wp2_with fail
                  refine K1.out.mono ?_
                  rintro e w2 ⟨rfl, g1, g2⟩
                  have G2 := Lib.hid (show Rw enc T tl w2 B d4 ∧ But B w w2 ∧ d4.size = n from ⟨g1, R.out.2.1.trans g2, M3.out⟩)
                  clear g1 g2 K1 R
                  go_wp2
                  go_roundg (b' - mid)
                  case measure => omega
                  case rel => exact ⟨mid, b', lim1, wb, wp, d4, rfl, rfl, rfl, rfl, rfl, by omega, by omega, Nat.le_refl _, by omega, by omega, M4, HE, G2⟩
end Go.Proofs.YtjjcoblbiagflaaGreat.kf
