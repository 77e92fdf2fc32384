/- PROVED: the law PlayEnds (whatever is picked, all operations end, in no more steps than so many) returns true at every input, and leaves its arguments as they were. The table of math/bits is as the program's text lays it (tied). -/
import Derived.Test.YthhcchdjeeigpaaDoorRows
import Derived.Test.YthhcchdjeeigpaaDoorPl
import Derived.Test.YthhcchdjeeigpaaDoorBits
import Derived.Lib.LaidTab
import Derived.LaidMore
import Derived.Stop.Joined
import Derived.Test.YthhcchdjeeigpaaDoorCards
import Derived.Test.YthhcchdjeeigpaaDoorTie
import Derived.ProofKit
import Derived.OpenShut
import Derived.ShutString
import Derived.ChangeOld
import Derived.Lib.SmallJoins
import Derived.SevenTiedAt
namespace Go.Proofs.YthhcchdjeeigpaaDoor
open Go.RowKit

theorem tab_global : Tryd.prog.globalNamed "math/bits.deBruijn64tab" = some 0 := by kernel_rfl
theorem tab_type : (Tryd.prog.globals[0]?).map (·.type) = some 173 := by kernel_rfl

theorem tab_of_laid {W : World} (h : laidMetH Tryd.prog [("math/bits.deBruijn64tab", Rows.laid_math_bits_deBruijn64tab)] W) : Tab W := by
  rw [MakeChecks.laidMetH_plain _ _ _ (by kernel_rfl)] at h
  have h' : laidMet Tryd.prog [("math/bits.deBruijn64tab", Lib.tabData .u8 (Lib.deBruijn64tab.map fun n : Nat => (n : Int)))] W := h
  have ht := Lib.tabIs_of_head tab_global tab_type Tryd.underlying173 Tryd.underlying5 (by kernel_rfl) (by kernel_rfl) h'
  intro j hj
  rw [ht.cell tab_global j (by simpa using hj)]
  simp [List.getD, hj]

end Go.Proofs.YthhcchdjeeigpaaDoor

namespace Go.Proofs.YthhcchdjeeigpaaDoor
open Go.RowKit
set_option linter.unusedVariables false
set_option linter.unusedSimpArgs false

theorem made_all {n : Nat} {s : List O3} (h : ∀ q ∈ s, okB q.1 q.2.1 q.2.2 n) : (valid n s).length = s.length := by
  unfold valid
  rw [List.length_map, List.filter_eq_self.2 fun q hq => decide_eq_true (h q hq)]
theorem made_ops {n : Nat} : ∀ {ss : List (List O3)}, Made n ss → opsIn (ss.map (valid n)) = opsN ss
  | [], _ => rfl
  | s :: ss, h => by
    have ih := made_ops (ss := ss) fun q hq => h q (by simp [hq])
    have h1 := made_all fun q hq => ((h s (by simp)).2 q hq).1
    unfold opsIn opsN at *
    simp only [List.map_cons, List.sum_cons, ih, h1]
theorem made_opsN {n : Nat} : ∀ {ss : List (List O3)}, Made n ss → opsN ss ≤ 24 * ss.length
  | [], _ => Nat.le_refl _
  | s :: ss, h => by
    have ih := made_opsN (ss := ss) fun q hq => h q (by simp [hq])
    have h1 := (h s (by simp)).1
    unfold opsN at *
    simp only [List.map_cons, List.sum_cons, List.length_cons]; omega
theorem idle_pend {g : Gm} (h : on 0 g.en = []) : ∀ k ∈ g.ws, k.left = [] ∧ k.on = false := by
  intro k hk
  obtain ⟨i, hi, rfl⟩ := List.getElem_of_mem hk
  have h1 : ¬ g.en.getD i false = true := fun e => by
    have := mem_on g.en 0 i e
    rw [h] at this; cases this
  have h2 : g.en.getD i false = (g.ws[i]).en := by
    unfold Gm.en
    simp [List.getD, hi]
  rw [h2] at h1
  unfold Wk.en at h1
  simp at h1
  exact ⟨h1.2, h1.1⟩
theorem sum_zero {α : Type} {f : α → Nat} : ∀ {l : List α}, (∀ a ∈ l, f a = 0) → (l.map f).sum = 0
  | [], _ => rfl
  | a :: l, h => by
    have := sum_zero (l := l) fun b hb => h b (by simp [hb])
    simp [this, h a (by simp)]
/-- All operations have ended. -/
theorem over_all {pr xs : List Int} {n : Nat} {ss : List (List O3)} {T : Nat} (h : Over pr xs n ss T) : (stAt pr xs n ss T).l.length = opsIn (ss.map (valid n)) := by
  have h1 := run_cnt (pr := pr) (picks := xs) (all_ok n ss) T
  have h2 : ((stAt pr xs n ss T).ws.map Wk.pend).sum = 0 := sum_zero fun k hk => by
    obtain ⟨e1, e2⟩ := idle_pend h.2 k hk
    unfold Wk.pend; rw [e1, e2]; rfl
  show (run pr xs (gm0 n (ss.map (valid n))) T).l.length = _
  have h3 : ((run pr xs (gm0 n (ss.map (valid n))) T).ws.map Wk.pend).sum = 0 := h2
  omega
theorem ends_bound {a n T : Nat} (h : T ≤ a * (16 * n + 1)) : T ≤ 100 * (a + 1) * (n + 1) := by
  refine Nat.le_trans h ?_
  have e : 100 * (a + 1) * (n + 1) = 100 * a * n + 100 * a + 100 * n + 100 := by rw [Nat.mul_add, Nat.mul_add, Nat.add_mul]; omega
  have e2 : a * (16 * n + 1) = 16 * (a * n) + a := by rw [Nat.mul_add, Nat.mul_left_comm]; omega
  rw [e, e2, Nat.mul_assoc]
  generalize a * n = z
  omega

set_option maxRecDepth 100000 in
set_option maxHeartbeats 4000000 in
theorem ends_law (a1 a2 a3 : Option Addr) (l1 l2 l3 c1 c2 c3 : Nat) (x1 : List Nat) (x3 : List Int) (w : World) (h1 : RowY 0 w.heap.size w a1 l1 x1) (b1 : ∀ i, i < l1 → x1.getD i 0 ≤ 255) (m1 : l1 ≤ 9223372036854775807) (h2 : GridY w a2 l2)
    (h3 : Row 0 w.heap.size w a3 l3 x3) (m3 : l3 ≤ c3) (hT : Tab w) :
    Calls Tryd.prog 5 #[.slice a1 l1 c1, .slice a2 l2 c2, .slice a3 l3 c3] w fun e w' => e = .returned (.bool true) ∧ Below w.heap.size w w' := by
  obtain ⟨n, hn⟩ : ∃ n : Nat, (1 : Int) + (l1 : Int) % 16 = (n : Int) := ⟨1 + l1 % 16, by omega⟩
  have hn0 : 0 < n := by omega
  have hn1 : n ≤ 16 := by omega
  have H1 := Lib.hid h1
  have B1 := Lib.hid b1
  have H2 := Lib.hid h2
  have H3 := Lib.hid h3
  have HT := Lib.hid hT
  have hTl := hT.lt
  clear h1 b1 h2 h3 hT
  by_cases g3 : (500 : Int) < (l3 : Int)
  · have HA := Lib.hid (awake_any5 w HT.out)
    go_enter Tryd.func5, Tryd.ntmps5
    go_wp2_with (first | (go_at_call 15; (with_reducible refine (HA.out).mono ?_); rintro e w' ⟨rfl, hb⟩))
    go_ret
    exact ⟨rfl, hb⟩
  · go_enter Tryd.func5, Tryd.ntmps5
    go_wp2_with fail
    clear hn
    refine (scripts_any a2 l2 c2 n w H2.out hn0 (by omega)).mono ?_
    rintro e w2 ⟨a', c', ss, rfl, hs8, hmade, hscr, hb2⟩
    have s2 := hb2.size
    obtain ⟨W, hW⟩ : ∃ W, ss.length = W := ⟨_, rfl⟩
    rw [hW] at hs8 hscr ⊢
    have HSC := Lib.hid hscr
    have HMD := Lib.hid hmade
    have HB2 := Lib.hid hb2
    have HW := Lib.hid hW
    have HON := Lib.hid (made_opsN hmade)
    clear hscr hmade hb2 hW
    go_wp2_with fail
    go_loop [9, 10] (fun s i => ∃ k : Nat, k ≤ W ∧ i = .int .i64 (k : Int) ∧ s = .int .i64 ((opsN (ss.take k) : Nat) : Int)) (fun _ i => W - (intOf i).toNat)
    case atStart => exact ⟨0, Nat.zero_le _, rfl, by simp [opsN]⟩
    case round =>
      obtain ⟨k, hk, rfl, rfl⟩ := hrel
      by_cases hlt : k < W
      · obtain ⟨b, off, rfl, hb, hc⟩ := HSC.out.2.resolve_left (by omega)
        obtain ⟨s, hsk⟩ : ∃ s, ss[k]? = some s := ⟨_, List.getElem?_eq_getElem (by have := HW.out; omega)⟩
        obtain ⟨a4, c4, h4, _⟩ := hc k s hsk
        have e1 := opsN_take ss k s hsk
        have e2 := opsN_le ss (k + 1)
        have e3 := HON.out
        have e5 := HW.out
        obtain ⟨q, hq⟩ : ∃ q, opsN (ss.take (k + 1)) = q := ⟨_, rfl⟩
        obtain ⟨p, hp⟩ : ∃ p, opsN (ss.take k) = p := ⟨_, rfl⟩
        obtain ⟨m, hm'⟩ : ∃ m, s.length = m := ⟨_, rfl⟩
        have HQ := Lib.hid hq
        rw [hm'] at h4
        rw [hq, hp, hm'] at e1
        rw [hq] at e2
        rw [hp]
        have e6 : q ≤ 192 := by omega
        have E1 := Lib.hid e1
        have hpm : (p : Int) + (m : Int) ≤ 192 := by omega
        clear hc hsk hq hp hm' e1 e2 e3 e5
        go_wp2_with fail
        go_round
        case rel => exact ⟨k + 1, by omega, by go_num, by rw [HQ.out, E1.out]; congr 1⟩
        case measure => simp [intOf]; omega
      · obtain rfl : k = W := by omega
        have e : ss.take k = ss := List.take_of_length_le (by rw [HW.out]; exact Nat.le_refl _)
        rw [e]
        have hall := made_ops HMD.out
        have hon := HON.out
        rw [HW.out] at hon
        obtain ⟨al, hal⟩ : ∃ al, opsN ss = al := ⟨_, rfl⟩
        rw [hal] at hall hon ⊢
        have HALL := Lib.hid hall
        have HAL := Lib.hid hal
        have hal192 : al ≤ 192 := by omega
        clear e hall hal hon
        go_wp2_with fail
        refine (prio_any a1 l1 c1 x1 n _ (H1.out.below HB2.out (Nat.le_refl _)) B1.out s2 m1 (by omega)).mono ?_
        rintro e w3 ⟨gp, pr, rfl, hgp, hrp, hb3⟩
        have s3 := hb3.size
        have HB3 : Hid (Below w.heap.size w w3) := HB2.out.trans (hb3.mono s2)
        have HPL := Lib.hid (play_any (some ⟨gp, 0, none⟩) a' a3 n n k c' l3 c3 pr x3 ss w3 hrp (Nat.le_refl _) (HSC.out.below hb3 (Nat.le_refl _)) s3 (H3.out.below HB3.out (Nat.le_refl _)) (Nat.le_trans s2 s3) m3 (by omega) (by omega) (by have := HAL.out; omega) (by omega) (HT.out.below HB3.out hTl))
        clear hgp hrp hb3
        go_wp2_with fail
        refine (HPL.out).mono ?_
        rintro e w4 ⟨T, gb, cu, ev, rfl, hov, hown, hup, hb4⟩
        have hlen := over_all hov
        rw [HALL.out] at hlen
        have hT1 : al ≤ T := by rw [← hlen]; exact lens_le T
        have hT2 := over_le hov.1
        rw [HALL.out] at hT2
        have hT3 := ends_bound hT2
        obtain ⟨ae, ce, rfl⟩ : ∃ ae ce, ev = .slice ae al ce := by
          rw [hlen] at hown
          obtain ⟨_, ⟨rfl, h0⟩ | ⟨g, cap, cur, rfl, _⟩⟩ := hown
          · exact ⟨none, 0, by rw [h0]⟩
          · exact ⟨_, _, rfl⟩
        have HB4 : Hid (Below w.heap.size w w4) := HB3.out.trans (hb4.mono (Nat.le_trans s2 s3))
        have HA := Lib.hid (awake_any5 w4 (HT.out.below HB4.out hTl))
        have k1 : ((al : Int) == (al : Int)) = true := by simp
        have k2 : ((n : Int) == (n : Int)) = true := by simp
        have k3 : (al : Int) ≤ (T : Int) := by omega
        obtain ⟨bd, hbd⟩ : ∃ bd : Nat, 100 * (al + 1) * (n + 1) = bd := ⟨_, rfl⟩
        rw [hbd] at hT3
        have hbd2 : bd ≤ 400000 := by
          rw [← hbd]
          exact Nat.le_trans (Nat.mul_le_mul (Nat.mul_le_mul_left 100 (show al + 1 ≤ 193 by omega)) (show n + 1 ≤ 17 by omega)) (by decide)
        have k4 : (100 : Int) * ((al : Int) + 1) * ((n : Int) + 1) = (bd : Int) := by rw [← hbd]; push_cast; rfl
        have k5 : (T : Int) ≤ (bd : Int) := by omega
        have k6 : IntKind.i64.wrap (bd : Int) = (bd : Int) := IntWalk.i64_in _ (by omega)
        clear hov hown hup hb4 hlen hT1 hT2 hT3 hbd
        go_wp2_with (first | (go_at_call 15; (with_reducible refine (HA.out).mono ?_); rintro e w' ⟨rfl, hb5⟩))
        go_ret
        exact ⟨rfl, HB4.out.trans (hb5.mono HB4.out.size)⟩

end Go.Proofs.YthhcchdjeeigpaaDoor

namespace Go.Proofs.YthhcchdjeeigpaaDoor
open Go.ChangeShapes Go.WideShapes Go.ChangeAt Go.RowKit Go.Joins
open Go.ChangeMaps (open_string shut_string)
set_option linter.unusedVariables false

theorem playEnds_own : ownKnob Tryd.prog.godebug = none := by kernel_rfl
theorem playEnds_laidOut : laidOutB Tryd.prog = true := by kernel_rfl
theorem playEnds_met (os : Os) (args : Array Value) : laidMetH Tryd.prog [("math/bits.deBruijn64tab", Rows.laid_math_bits_deBruijn64tab)] ((World.doorLaid Tryd.prog 14 os).forCall (fun _ _ => 0) ⟨#[], args, []⟩).memory :=
  laidMetH_of_parts3 (fuel := 8) (laidMet_of_run' 8 (by kernel_rfl) (by kernel_rfl)) (by kernel_rfl) (by kernel_rfl)

set_option maxRecDepth 100000 in
theorem playEnds_lifted (os : Os) (started : os.Started) (H : Type) (enc : TypeId × Value → H) :
    ReturnsInHanded {} Tryd.checked os 5 .any (fun w args => (Rows.playEndsSpec.pre enc Tryd.prog Tryd.f5 [] false w args ∧ laidMetH Tryd.prog [("math/bits.deBruijn64tab", Rows.laid_math_bits_deBruijn64tab)] w) ∧ sizedMet enc Tryd.prog Tryd.f5 (OpenSpec.ofChange Rows.playEndsSpec) false w args)
      (Rows.playEndsSpec.post enc Tryd.prog Tryd.f5 false true false false) := by
  refine returnsInHanded_of_change_and (C := Tryd.checked) (X := fun w _ => laidMetH Tryd.prog [("math/bits.deBruijn64tab", Rows.laid_math_bits_deBruijn64tab)] w) (fun _ _ _ hh h => h.of_heap hh) playEnds_own started (by kernel_rfl) Tryd.func5
    (ChangeSpec.witness_shaped (enc := enc) (C := Tryd.checked) (os := os) (X := fun w _ => laidMetH Tryd.prog [("math/bits.deBruijn64tab", Rows.laid_math_bits_deBruijn64tab)] w) false (World.doorLaid Tryd.prog 14 os) #[.slice none 0 0, .slice none 0 0, .slice none 0 0] 8 rfl (World.shaped_of_RefB (by kernel_rfl) (by kernel_rfl)) (by kernel_rfl) (by kernel_rfl) (by kernel_rfl) (playEnds_met os _)) ?_
  intro W base args ds gs before hval0 hW _ _ hL _
  have hval : ∀ (j : Nat) t v, Tryd.f5.params[j]? = some t → args[j]? = some v → Value.okWide Tryd.prog W .any base t v := hval0
  have hW' := hW
  obtain ⟨p, q, hA0, hV, rfl, hfz, hnd⟩ := hW
  have hA : DataW.TrodAll enc Tryd.prog W 0 (fun _ => true) true Tryd.f5.params.toList args.toList ds p := hA0
  rw [Tryd.params5] at hA hval
  obtain ⟨v0, vs0, d0, ds0, p0, q0, hargs, rfl, rfl, h0, r0⟩ := trodAll_cons hA
  obtain ⟨v1, vs1, d1, ds1, p1, q1, rfl, rfl, rfl, h1, r1⟩ := trodAll_cons r0
  obtain ⟨v2, vs2, d2, ds2, p2, q2, rfl, rfl, rfl, h2, r2⟩ := trodAll_cons r1
  obtain ⟨rfl, rfl, rfl⟩ := trodAll_nil r2
  obtain rfl : args = #[v0, v1, v2] := by cases args; simp_all
  obtain ⟨rfl, rfl⟩ := trodVars_none hV
  have tabW := tab_of_laid hL
  have k0 := h0
  have lt0 : ∀ x ∈ p0, x.block < W.heap.size := by obtain ⟨m, hm⟩ := k0; exact DataW.trod_lt m _ _ _ hm
  have k1 := h1
  have lt1 : ∀ x ∈ p1, x.block < W.heap.size := by obtain ⟨m, hm⟩ := k1; exact DataW.trod_lt m _ _ _ hm
  have k2 := h2
  have lt2 : ∀ x ∈ p2, x.block < W.heap.size := by obtain ⟨m, hm⟩ := k2; exact DataW.trod_lt m _ _ _ hm
  obtain ⟨a_p, l_p, c_p, rfl⟩ := okWide_slice Tryd.underlying35 (hval 0 35 v0 rfl rfl)
  obtain ⟨x_p, row_p⟩ := (by obtain ⟨fuel, hf⟩ := h0; exact RowY_of_trod Tryd.underlying35 Tryd.underlying5 (by kernel_rfl) hf rfl : ∃ xs, RowY 0 W.heap.size W a_p l_p xs ∧ ∀ i, i < l_p → xs.getD i 0 ≤ 255)
  have len_p : l_p ≤ 9223372036854775807 := by obtain ⟨fuel, hf⟩ := h0; exact leny_of_trod Tryd.underlying35 Tryd.underlying5 (by kernel_rfl) hf rfl
  obtain ⟨a_s, l_s, c_s, rfl⟩ := okWide_slice Tryd.underlying36 (hval 1 36 v1 rfl rfl)
  have grid_s : GridY W a_s l_s := by obtain ⟨fuel, hf⟩ := h1; exact GridY_of_trod Tryd.underlying36 Tryd.underlying35 Tryd.underlying5 (by kernel_rfl) (by kernel_rfl) hf rfl
  obtain ⟨a_c, l_c, c_c, rfl⟩ := okWide_slice Tryd.underlying22 (hval 2 22 v2 rfl rfl)
  obtain ⟨x_c, row_c⟩ : ∃ xs, Row 0 W.heap.size W a_c l_c xs := by obtain ⟨fuel, hf⟩ := h2; exact Row_of_trod Tryd.underlying22 Tryd.underlying3 (by kernel_rfl) hf rfl
  have cap_c : l_c ≤ c_c := by obtain ⟨fuel, hf⟩ := h2; exact cap_of_trod Tryd.underlying22 Tryd.underlying3 (by kernel_rfl) hf rfl
  clear hA0 hval0
  refine (ends_law a_p a_s a_c l_p l_s l_c c_p c_s c_c x_p x_c W row_p.1 row_p.2 len_p grid_s row_c cap_c tabW).mono fun e W' ⟨he, bel⟩ => ?_
  subst he
  exact ⟨_, rfl, _, _, _, [], _, [], hW', trodAll_mk1 (shut_bool Tryd.underlying4 _), (trodAll_cons_mk (Below.trod playEnds_laidOut (by kernel_rfl) (of_decide_eq_true (by kernel_rfl)) k0 bel lt0) (trodAll_cons_mk (Below.trod playEnds_laidOut (by kernel_rfl) (of_decide_eq_true (by kernel_rfl)) k1 bel lt1) (trodAll_cons_mk (Below.trod playEnds_laidOut (by kernel_rfl) (of_decide_eq_true (by kernel_rfl)) k2 bel lt2) trodAll_mk0))), rfl, bel.frame _, fun h => by cases h⟩

theorem playEnds_holds : Rows.PlayEndsSaid :=
  OpenClaim.holds_of_wide 5 Tryd.f5 rfl rfl rfl rfl rfl rfl rfl ⟨rfl, rfl, rfl, rfl, rfl⟩ rfl rfl rfl rfl rfl (by kernel_rfl) Tryd.func5 (by kernel_rfl)
    (of_decide_eq_true (by kernel_rfl)) (by unfold Func.isWrapper; first | (rw [if_pos (by decide +kernel)]; kernel_rfl) | (rw [if_neg (by decide +kernel)]; exact ⟨rfl, rfl⟩))
    (fun os started H enc _ => playEnds_lifted os started H enc)

theorem playEnds_card : Rows.PlayEndsCardSaid :=
  Claim7.holds_tied_plain_at .later [] [.data] true _ _
    playEnds_holds (fun _ h => by cases h) (by kernel_rfl) (fun _ h => by cases h) playEnds_row_tie rfl ⟨rfl, rfl⟩ (by kernel_rfl) rfl
    (fun f fn hf hfn => by
      obtain rfl : f = 5 := Option.some.inj ((show Tryd.prog.funcNamed "warp/warplaw5.PlayEnds" = some 5 by kernel_rfl).symm.trans hf) |>.symm
      obtain rfl : fn = Tryd.f5 := (Option.some.inj (Tryd.func5.symm.trans hfn)).symm
      exact ⟨by kernel_rfl, fun j t ht => by
        rw [Tryd.params5] at ht
        have hm : t ∈ [35, 36, 22] := by simpa using Array.mem_of_getElem? ht
        have hall : ([35, 36, 22].all fun u => !Tryd.prog.wantsStandIn u) = true := by kernel_rfl
        exact (show Tryd.prog.wantsStandIn t = false by simpa using List.all_eq_true.1 hall t hm)⟩)
    (by kernel_rfl)
#print axioms playEnds_card

end Go.Proofs.YthhcchdjeeigpaaDoor
