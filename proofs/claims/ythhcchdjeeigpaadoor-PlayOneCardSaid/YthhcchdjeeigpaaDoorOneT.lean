/- PROVED: the law PlayOne (one worker alone does as a partition would: each result, one behind the other) returns true at every input, and leaves its arguments as they were. The table of math/bits is as the program's text lays it (tied). -/
import Derived.Test.YthhcchdjeeigpaaDoorRows
import Derived.Test.YthhcchdjeeigpaaDoorPo
import Derived.Test.YthhcchdjeeigpaaDoorBits
import Derived.Lib.LaidTab
import Derived.LaidMore
import Derived.Stop.Joined
import Derived.Deep.DeepCutAuto
import Derived.Deep.QuietTactic
import Derived.Deep.RegionWith
import Derived.Deep.RegionHeld3
import Derived.Test.YthhcchdjeeigpaaDoorCards
import Derived.Test.YthhcchdjeeigpaaDoorTie
import Derived.ProofKit
import Derived.OpenShut
import Derived.ShutString
import Derived.ChangeOld
import Derived.Lib.SmallJoins
import Derived.SevenTiedAt
namespace Go.Proofs.YthhcchdjeeigpaaDoor
open Go.RowKit

theorem tab_global : Tryd.prog.globalNamed "math/bits.deBruijn64tab" = some 0 := by kernel_rfl
theorem tab_type : (Tryd.prog.globals[0]?).map (·.type) = some 173 := by kernel_rfl

theorem tab_of_laid {W : World} (h : laidMetH Tryd.prog [("math/bits.deBruijn64tab", Rows.laid_math_bits_deBruijn64tab)] W) : Tab W := by
  rw [MakeChecks.laidMetH_plain _ _ _ (by kernel_rfl)] at h
  have h' : laidMet Tryd.prog [("math/bits.deBruijn64tab", Lib.tabData .u8 (Lib.deBruijn64tab.map fun n : Nat => (n : Int)))] W := h
  have ht := Lib.tabIs_of_head tab_global tab_type Tryd.underlying173 Tryd.underlying5 (by kernel_rfl) (by kernel_rfl) h'
  intro j hj
  rw [ht.cell tab_global j (by simpa using hj)]
  simp [List.getD, hj]

end Go.Proofs.YthhcchdjeeigpaaDoor

namespace Go.Proofs.YthhcchdjeeigpaaDoor
open Go.RowKit
set_option linter.unusedVariables false
set_option linter.unusedSimpArgs false

theorem made_all {n : Nat} {s : List O3} (h : ∀ q ∈ s, okB q.1 q.2.1 q.2.2 n) : (valid n s).length = s.length := by
  unfold valid
  rw [List.length_map, List.filter_eq_self.2 fun q hq => decide_eq_true (h q hq)]
theorem made_ops {n : Nat} : ∀ {ss : List (List O3)}, Made n ss → opsIn (ss.map (valid n)) = opsN ss
  | [], _ => rfl
  | s :: ss, h => by
    have ih := made_ops (ss := ss) fun q hq => h q (by simp [hq])
    have h1 := made_all fun q hq => ((h s (by simp)).2 q hq).1
    unfold opsIn opsN at *
    simp only [List.map_cons, List.sum_cons, ih, h1]
theorem made_opsN {n : Nat} : ∀ {ss : List (List O3)}, Made n ss → opsN ss ≤ 24 * ss.length
  | [], _ => Nat.le_refl _
  | s :: ss, h => by
    have ih := made_opsN (ss := ss) fun q hq => h q (by simp [hq])
    have h1 := (h s (by simp)).1
    unfold opsN at *
    simp only [List.map_cons, List.sum_cons, List.length_cons]; omega
theorem idle_pend {g : Gm} (h : on 0 g.en = []) : ∀ k ∈ g.ws, k.left = [] ∧ k.on = false := by
  intro k hk
  obtain ⟨i, hi, rfl⟩ := List.getElem_of_mem hk
  have h1 : ¬ g.en.getD i false = true := fun e => by
    have := mem_on g.en 0 i e
    rw [h] at this; cases this
  have h2 : g.en.getD i false = (g.ws[i]).en := by
    unfold Gm.en
    simp [List.getD, hi]
  rw [h2] at h1
  unfold Wk.en at h1
  simp at h1
  exact ⟨h1.2, h1.1⟩
theorem sum_zero {α : Type} {f : α → Nat} : ∀ {l : List α}, (∀ a ∈ l, f a = 0) → (l.map f).sum = 0
  | [], _ => rfl
  | a :: l, h => by
    have := sum_zero (l := l) fun b hb => h b (by simp [hb])
    simp [this, h a (by simp)]
/-- All operations have ended. -/
theorem over_all {pr xs : List Int} {n : Nat} {ss : List (List O3)} {T : Nat} (h : Over pr xs n ss T) : (stAt pr xs n ss T).l.length = opsIn (ss.map (valid n)) := by
  have h1 := run_cnt (pr := pr) (picks := xs) (all_ok n ss) T
  have h2 : ((stAt pr xs n ss T).ws.map Wk.pend).sum = 0 := sum_zero fun k hk => by
    obtain ⟨e1, e2⟩ := idle_pend h.2 k hk
    unfold Wk.pend; rw [e1, e2]; rfl
  show (run pr xs (gm0 n (ss.map (valid n))) T).l.length = _
  have h3 : ((run pr xs (gm0 n (ss.map (valid n))) T).ws.map Wk.pend).sum = 0 := h2
  omega
theorem ends_bound {a n T : Nat} (h : T ≤ a * (16 * n + 1)) : T ≤ 100 * (a + 1) * (n + 1) := by
  refine Nat.le_trans h ?_
  have e : 100 * (a + 1) * (n + 1) = 100 * a * n + 100 * a + 100 * n + 100 := by rw [Nat.mul_add, Nat.mul_add, Nat.add_mul]; omega
  have e2 : a * (16 * n + 1) = 16 * (a * n) + a := by rw [Nat.mul_add, Nat.mul_left_comm]; omega
  rw [e, e2, Nat.mul_assoc]
  generalize a * n = z
  omega

set_option maxRecDepth 100000 in
set_option maxHeartbeats 4000000 in
theorem ends_law (a1 a2 a3 : Option Addr) (l1 l2 l3 c1 c2 c3 : Nat) (x1 : List Nat) (x3 : List Int) (w : World) (h1 : RowY 0 w.heap.size w a1 l1 x1) (b1 : ∀ i, i < l1 → x1.getD i 0 ≤ 255) (m1 : l1 ≤ 9223372036854775807) (h2 : GridY w a2 l2)
    (h3 : Row 0 w.heap.size w a3 l3 x3) (m3 : l3 ≤ c3) (hT : Tab w) :
    Calls Tryd.prog 5 #[.slice a1 l1 c1, .slice a2 l2 c2, .slice a3 l3 c3] w fun e w' => e = .returned (.bool true) ∧ Below w.heap.size w w' := by
  obtain ⟨n, hn⟩ : ∃ n : Nat, (1 : Int) + (l1 : Int) % 16 = (n : Int) := ⟨1 + l1 % 16, by omega⟩
  have hn0 : 0 < n := by omega
  have hn1 : n ≤ 16 := by omega
  have H1 := Lib.hid h1
  have B1 := Lib.hid b1
  have H2 := Lib.hid h2
  have H3 := Lib.hid h3
  have HT := Lib.hid hT
  have hTl := hT.lt
  clear h1 b1 h2 h3 hT
  by_cases g3 : (500 : Int) < (l3 : Int)
  · have HA := Lib.hid (awake_any5 w HT.out)
    go_enter Tryd.func5, Tryd.ntmps5
    go_wp2_with (first | (go_at_call 15; (with_reducible refine (HA.out).mono ?_); rintro e w' ⟨rfl, hb⟩))
    go_ret
    exact ⟨rfl, hb⟩
  · go_enter Tryd.func5, Tryd.ntmps5
    go_wp2_with fail
    clear hn
    refine (scripts_any a2 l2 c2 n w H2.out hn0 (by omega)).mono ?_
    rintro e w2 ⟨a', c', ss, rfl, hs8, hmade, hscr, hb2⟩
    have s2 := hb2.size
    obtain ⟨W, hW⟩ : ∃ W, ss.length = W := ⟨_, rfl⟩
    rw [hW] at hs8 hscr ⊢
    have HSC := Lib.hid hscr
    have HMD := Lib.hid hmade
    have HB2 := Lib.hid hb2
    have HW := Lib.hid hW
    have HON := Lib.hid (made_opsN hmade)
    clear hscr hmade hb2 hW
    go_wp2_with fail
    go_loop [9, 10] (fun s i => ∃ k : Nat, k ≤ W ∧ i = .int .i64 (k : Int) ∧ s = .int .i64 ((opsN (ss.take k) : Nat) : Int)) (fun _ i => W - (intOf i).toNat)
    case atStart => exact ⟨0, Nat.zero_le _, rfl, by simp [opsN]⟩
    case round =>
      obtain ⟨k, hk, rfl, rfl⟩ := hrel
      by_cases hlt : k < W
      · obtain ⟨b, off, rfl, hb, hc⟩ := HSC.out.2.resolve_left (by omega)
        obtain ⟨s, hsk⟩ : ∃ s, ss[k]? = some s := ⟨_, List.getElem?_eq_getElem (by have := HW.out; omega)⟩
        obtain ⟨a4, c4, h4, _⟩ := hc k s hsk
        have e1 := opsN_take ss k s hsk
        have e2 := opsN_le ss (k + 1)
        have e3 := HON.out
        have e5 := HW.out
        obtain ⟨q, hq⟩ : ∃ q, opsN (ss.take (k + 1)) = q := ⟨_, rfl⟩
        obtain ⟨p, hp⟩ : ∃ p, opsN (ss.take k) = p := ⟨_, rfl⟩
        obtain ⟨m, hm'⟩ : ∃ m, s.length = m := ⟨_, rfl⟩
        have HQ := Lib.hid hq
        rw [hm'] at h4
        rw [hq, hp, hm'] at e1
        rw [hq] at e2
        rw [hp]
        have e6 : q ≤ 192 := by omega
        have E1 := Lib.hid e1
        have hpm : (p : Int) + (m : Int) ≤ 192 := by omega
        clear hc hsk hq hp hm' e1 e2 e3 e5
        go_wp2_with fail
        go_round
        case rel => exact ⟨k + 1, by omega, by go_num, by rw [HQ.out, E1.out]; congr 1⟩
        case measure => simp [intOf]; omega
      · obtain rfl : k = W := by omega
        have e : ss.take k = ss := List.take_of_length_le (by rw [HW.out]; exact Nat.le_refl _)
        rw [e]
        have hall := made_ops HMD.out
        have hon := HON.out
        rw [HW.out] at hon
        obtain ⟨al, hal⟩ : ∃ al, opsN ss = al := ⟨_, rfl⟩
        rw [hal] at hall hon ⊢
        have HALL := Lib.hid hall
        have HAL := Lib.hid hal
        have hal192 : al ≤ 192 := by omega
        clear e hall hal hon
        go_wp2_with fail
        refine (prio_any a1 l1 c1 x1 n _ (H1.out.below HB2.out (Nat.le_refl _)) B1.out s2 m1 (by omega)).mono ?_
        rintro e w3 ⟨gp, pr, rfl, hgp, hrp, hb3⟩
        have s3 := hb3.size
        have HB3 : Hid (Below w.heap.size w w3) := HB2.out.trans (hb3.mono s2)
        have HPL := Lib.hid (play_any (some ⟨gp, 0, none⟩) a' a3 n n k c' l3 c3 pr x3 ss w3 hrp (Nat.le_refl _) (HSC.out.below hb3 (Nat.le_refl _)) s3 (H3.out.below HB3.out (Nat.le_refl _)) (Nat.le_trans s2 s3) m3 (by omega) (by omega) (by have := HAL.out; omega) (by omega) (HT.out.below HB3.out hTl))
        clear hgp hrp hb3
        go_wp2_with fail
        refine (HPL.out).mono ?_
        rintro e w4 ⟨T, gb, cu, ev, rfl, hov, hown, hup, hb4⟩
        have hlen := over_all hov
        rw [HALL.out] at hlen
        have hT1 : al ≤ T := by rw [← hlen]; exact lens_le T
        have hT2 := over_le hov.1
        rw [HALL.out] at hT2
        have hT3 := ends_bound hT2
        obtain ⟨ae, ce, rfl⟩ : ∃ ae ce, ev = .slice ae al ce := by
          rw [hlen] at hown
          obtain ⟨_, ⟨rfl, h0⟩ | ⟨g, cap, cur, rfl, _⟩⟩ := hown
          · exact ⟨none, 0, by rw [h0]⟩
          · exact ⟨_, _, rfl⟩
        have HB4 : Hid (Below w.heap.size w w4) := HB3.out.trans (hb4.mono (Nat.le_trans s2 s3))
        have HA := Lib.hid (awake_any5 w4 (HT.out.below HB4.out hTl))
        have k1 : ((al : Int) == (al : Int)) = true := by simp
        have k2 : ((n : Int) == (n : Int)) = true := by simp
        have k3 : (al : Int) ≤ (T : Int) := by omega
        obtain ⟨bd, hbd⟩ : ∃ bd : Nat, 100 * (al + 1) * (n + 1) = bd := ⟨_, rfl⟩
        rw [hbd] at hT3
        have hbd2 : bd ≤ 400000 := by
          rw [← hbd]
          exact Nat.le_trans (Nat.mul_le_mul (Nat.mul_le_mul_left 100 (show al + 1 ≤ 193 by omega)) (show n + 1 ≤ 17 by omega)) (by decide)
        have k4 : (100 : Int) * ((al : Int) + 1) * ((n : Int) + 1) = (bd : Int) := by rw [← hbd]; push_cast; rfl
        have k5 : (T : Int) ≤ (bd : Int) := by omega
        have k6 : IntKind.i64.wrap (bd : Int) = (bd : Int) := IntWalk.i64_in _ (by omega)
        clear hov hown hup hb4 hlen hT1 hT2 hT3 hbd
        go_wp2_with (first | (go_at_call 15; (with_reducible refine (HA.out).mono ?_); rintro e w' ⟨rfl, hb5⟩))
        go_ret
        exact ⟨rfl, HB4.out.trans (hb5.mono HB4.out.size)⟩

end Go.Proofs.YthhcchdjeeigpaaDoor

namespace Go.Proofs.YthhcchdjeeigpaaDoor
open Go.RowKit
set_option linter.unusedVariables false
set_option linter.unusedSimpArgs false

set_option maxRecDepth 100000 in
set_option maxHeartbeats 2000000 in
theorem play_no (a b c : Option Addr) (la ca lb cb lc cc : Nat) (ss : List (List O3)) (w : World) {ls : Nat} (hs : Scr ls w b lb ss) (hb : lb ≤ 1000000) (ho : opsN ss ≤ 1000000) (h : ¬ (la ≤ 4096 ∧ lb ≤ 64 ∧ opsN ss ≤ 4096)) :
    Calls Tryd.prog 16 #[.slice a la ca, .slice b lb cb, .slice c lc cc] w fun e w' => e = .returned (.tuple #[.slice none 0 0, .slice none 0 0, .int .i64 0]) ∧ w = w' := by
  have HM := may_play (la : Int) b lb cb ss w hs hb ho
  rw [decide_eq_false (by omega)] at HM
  have HMH := Lib.hid HM
  clear HM hs h
  go_enter Tryd.func16, Tryd.ntmps16
  go_wp2_with (first | (go_at_call 33; (with_reducible refine (HMH.out).mono ?_); rintro e w' ⟨rfl, rfl⟩))
  exact bodyPost_ret (v := .tuple #[.slice none 0 0, .slice none 0 0, .int .i64 0]) (by simp only [results, Tryd.results16]; go_simp) rfl ⟨rfl, rfl⟩

/-- Rows of zeros that were made. -/
def zs (c : Nat) : List O3 := List.replicate c (0, 0, 0)
def LimIn (H : Nat) (w : World) (svs : List Value) (cs : List Nat) : Prop :=
  svs.length = cs.length ∧ ∀ (i c : Nat), cs[i]? = some c → ∃ a, svs[i]? = some (.slice a c c) ∧ OpsRow (H + 1) w.heap.size w a c (zs c)
theorem zs_flat (c : Nat) : (zs c).flatMap o3 = List.replicate (c * 3) (Value.int .i64 0) := by
  induction c with
  | zero => rfl
  | succ c ih =>
    have e : zs (c + 1) = (0, 0, 0) :: zs c := List.replicate_succ
    rw [e, List.flatMap_cons, ih, show (c + 1) * 3 = c * 3 + 1 + 1 + 1 by omega]
    rfl
theorem zrow (w : World) (c : Nat) (t : TypeId) : OpsRow w.heap.size (w.alloc (.cells (madeCells #[Value.int .i64 0, Value.int .i64 0, Value.int .i64 0] (c * 3)) t)).heap.size (w.alloc (.cells (madeCells #[Value.int .i64 0, Value.int .i64 0, Value.int .i64 0] (c * 3)) t)) (some ⟨w.heap.size, 0, none⟩) c (zs c) := by
  have hr := RowsIn.made (k := 3) w [Value.int .i64 0, Value.int .i64 0, Value.int .i64 0] c t rfl
  refine ⟨by simp [zs], .inr ⟨w.heap.size, 0, rfl, Nat.le_refl _, by simp, fun i x hx j v hv => ?_⟩⟩
  rw [Nat.zero_add]
  refine (hr.2 i x ?_ j v hv).1
  rw [← hx]
  simp [zs, o3]
theorem LimIn.step {H k c : Nat} {w : World} {svs : List Value} {cs : List Nat} {t : TypeId} (h : LimIn H w svs cs) (hH : H < w.heap.size) :
    LimIn H ((w.alloc (.cells (madeCells #[Value.int .i64 0, Value.int .i64 0, Value.int .i64 0] (c * 3)) t)).setCell ⟨H, k, none⟩ (.slice (some ⟨w.heap.size, 0, none⟩) c c)) (svs ++ [.slice (some ⟨w.heap.size, 0, none⟩) c c]) (cs ++ [c]) := by
  refine ⟨by simp [h.1], fun i q hq => ?_⟩
  by_cases hi : i < cs.length
  · rw [List.getElem?_append_left hi] at hq
    obtain ⟨a, h1, h2⟩ := h.2 i q hq
    refine ⟨a, by rw [List.getElem?_append_left (by rw [h.1]; exact hi)]; exact h1, ?_⟩
    refine (h2.agree fun b hl hh => ?_).mono (Nat.le_refl _) (by simp)
    rw [Below.heap_setCell _ ⟨H, k, none⟩ _ b (by show b ≠ H; omega), Below.heap_alloc w _ b hh]
  · rw [List.getElem?_append_right (by omega)] at hq
    have hz : i - cs.length = 0 := by have := (List.getElem?_eq_some_iff.1 hq).1; simp at this; omega
    rw [hz] at hq
    simp at hq
    subst hq
    refine ⟨_, by rw [List.getElem?_append_right (by rw [h.1]; omega), h.1, hz]; rfl, ?_⟩
    refine ((zrow w c t).agree fun b hl hh => ?_).mono (by omega) (by simp)
    rw [Below.heap_setCell _ ⟨H, k, none⟩ _ b (by show b ≠ H; omega)]
theorem LimIn.scr {H n : Nat} {w : World} {e : TypeId} {svs : List Value} {cs : List Nat} (h : LimIn H w svs cs) (ho : w.ownsRow H e 1 (.slice (some ⟨H, 0, none⟩) n n) n svs) (hn : cs.length = n) (hH : H < w.heap.size) : Scr w.heap.size w (some ⟨H, 0, none⟩) n (cs.map zs) := by
  refine ⟨by simpa using hn, .inr ⟨H, 0, rfl, hH, fun i s hs => ?_⟩⟩
  rw [List.getElem?_map] at hs
  obtain ⟨c, hc, rfl⟩ := Option.map_eq_some_iff.1 hs
  obtain ⟨a, h1, h2⟩ := h.2 i c hc
  have hi : i < n := by have := (List.getElem?_eq_some_iff.1 hc).1; omega
  have hl : (zs c).length = c := by simp [zs]
  refine ⟨a, c, ?_, by rw [hl]; exact h2.mono (Nat.zero_le _) (Nat.le_refl _)⟩
  rw [Nat.zero_add, ho.cellAt i (by omega), h1, hl]
theorem opsN_zs (cs : List Nat) : opsN (cs.map zs) = cs.sum := by
  unfold opsN
  rw [List.map_map]
  congr 1
  induction cs with
  | nil => rfl
  | cons c cs ih => simp [ih, zs]
theorem sum_le_of (cs : List Nat) (B : Nat) (h : ∀ c ∈ cs, c ≤ B) : cs.sum ≤ cs.length * B := by
  induction cs with
  | nil => simp
  | cons c cs ih =>
    have h1 := ih fun q hq => h q (by simp [hq])
    have h2 := h c (by simp)
    simp only [List.sum_cons, List.length_cons, Nat.add_mul]; omega
theorem valid_zs (n c : Nat) : valid n (zs c) = [] := by
  unfold valid
  rw [List.filter_eq_nil_iff.2, List.map_nil]
  intro q hq
  obtain ⟨_, rfl⟩ := List.mem_replicate.1 hq
  simp [okB]
theorem on_all_false : ∀ (en : List Bool) (k : Nat), (∀ b ∈ en, b = false) → on k en = [] := by
  intro en k h
  induction en generalizing k with
  | nil => rfl
  | cons b en ih =>
    obtain rfl := h b (by simp)
    simpa [on] using ih (k + 1) fun q hq => h q (by simp [hq])
theorem lim_over (pr : List Int) (n : Nat) (cs : List Nat) : Over pr [] n (cs.map zs) 0 := by
  refine ⟨fun t ht => absurd ht (Nat.not_lt_zero _), ?_⟩
  refine on_all_false _ _ fun b hb => ?_
  unfold Gm.en at hb
  obtain ⟨k, hk, rfl⟩ := List.mem_map.1 hb
  have : k ∈ ((cs.map zs).map (valid n)).map Wk.new := hk
  simp only [List.mem_map] at this
  obtain ⟨s, ⟨q, ⟨c, _, rfl⟩, rfl⟩, rfl⟩ := this
  rw [valid_zs]
  rfl

theorem Tryd.opInfo1 : (Tryd.prog.info? 40).map (fun i => (i.zero, i.size, i.bytes)) = some (some (.agg #[.int .i64 0, .int .i64 0, .int .i64 0]), 3, 24) := by kernel_rfl
theorem Tryd.intInfo1 : (Tryd.prog.info? 3).map (fun i => (i.zero, i.size, i.bytes)) = some (some (.int .i64 0), 1, 8) := by kernel_rfl

set_option maxRecDepth 100000 in
set_option maxHeartbeats 4000000 in
theorem limits_law (n k m : Nat) (w : World) (hn : n ≤ 65535) (hk : k ≤ 65535) (hm : m ≤ 65535) (hT : Tab w) :
    Calls Tryd.prog 6 #[.int .u16 (n : Int), .int .u16 (k : Int), .int .u16 (m : Int)] w fun e w' => e = .returned (.bool true) ∧ Below w.heap.size w w' := by
  obtain ⟨i0, hi0, hz0, hz1, hz2⟩ := info_parts Tryd.opInfo1
  obtain ⟨i1, hi1, hy0, hy1, hy2⟩ := info_parts Tryd.opsInfo
  obtain ⟨i2, hi2, hx0, hx1, hx2⟩ := info_parts Tryd.intInfo1
  have HT := Lib.hid hT
  have hTl := hT.lt
  clear hT
  go_enter Tryd.func6, Tryd.ntmps6
  go_upto_region 2 with fail
  go_cut [7, 31] (fun s7 s31 wx => ∃ (n0 : Nat) (z : Bool), n0 ≤ 4999 ∧ s7 = .int .i64 (n0 : Int) ∧ s31 = .bool z ∧ wx = w)
  case first =>
    go_wp2_with fail
    all_goals go_meet
    · exact ⟨n % 5000, _, by omega, by push_cast; rfl, rfl, rfl⟩
    · exact ⟨n % 5000, _, by omega, by push_cast; rfl, rfl, rfl⟩
  case rest =>
  obtain ⟨n0, z, hn0, rfl, rfl, rfl⟩ := hcut
  go_upto_if 31 with fail
  go_cut [7] (fun s7 wx => ∃ (nn : Nat), nn ≤ 4999 ∧ s7 = .int .i64 (nn : Int) ∧ wx = wc)
  case first =>
    cases z with
    | true =>
      go_wp2_with fail
      go_meet
      exact ⟨64, by omega, rfl, rfl⟩
    | false =>
      go_wp2_with fail
      go_meet
      exact ⟨n0, hn0, rfl, rfl⟩
  case rest =>
  obtain ⟨nn, hnn, rfl, rfl⟩ := hcut
  clear hn0 z n0
  go_upto_region 4 with fail
  go_cut [8, 9, 37] (fun s8 s9 s37 wx => ∃ (k0 m0 : Nat) (z : Bool), k0 ≤ 69 ∧ m0 ≤ 5999 ∧ s8 = .int .i64 (k0 : Int) ∧ s9 = .int .i64 (m0 : Int) ∧ s37 = .bool z ∧ wx = wc)
  case first =>
    go_wp2_with fail
    all_goals go_meet
    · exact ⟨k % 70, m % 6000, _, by omega, by omega, by push_cast; rfl, by push_cast; rfl, rfl, rfl⟩
    · exact ⟨k % 70, m % 6000, _, by omega, by omega, by push_cast; rfl, by push_cast; rfl, rfl, rfl⟩
  case rest =>
  obtain ⟨kk, m0, z, hkk, hm0, rfl, rfl, rfl, rfl⟩ := hcut
  go_upto_if 37 with fail
  go_cut [9] (fun s9 wx => ∃ (mm : Nat), mm ≤ 5999 ∧ s9 = .int .i64 (mm : Int) ∧ wx = wc)
  case first =>
    cases z with
    | true =>
      go_wp2_with fail
      go_meet
      exact ⟨40, by omega, rfl, rfl⟩
    | false =>
      go_wp2_with fail
      go_meet
      exact ⟨m0, hm0, rfl, rfl⟩
  case rest =>
  obtain ⟨mm, hmm, rfl, rfl⟩ := hcut
  clear hm0 z m0 hn hk hm
  go_wp2_with (at_make; refine wpList_make_full _ rfl _ _ 23 rfl wc.heap.size 43 i1 (.slice none 0 0) 1 Tryd.underlying23 hi1 hy0 hy1 _ _ _ _ kk rfl rfl rfl rfl ?m1 ?m2 ?m3 ?_)
  case m1 => rw [hy2]; omega
  case m2 => unfold maxLen; omega
  case m3 => simp
  intro w1 hown hgr
  rw [toList_madeCells_one] at hown
  have hb1 : Below wc.heap.size wc w1 := (Below.refl _ _).grown hgr (Nat.le_refl _) (by simp)
  clear hgr
  go_wp2_with fail
  go_loopw [11, 12] (fun sv iv wr => ∃ (t : Nat) (svs : List Value) (cs : List Nat), t ≤ kk ∧ iv = .int .i64 (t : Int) ∧ sv = .int .i64 ((cs.sum : Nat) : Int) ∧ Hid (cs.length = t) ∧ Hid (∀ c ∈ cs, c ≤ 6000) ∧ Hid (wr.ownsRow wc.heap.size 43 1 (.slice (some ⟨wc.heap.size, 0, none⟩) kk kk) kk (svs ++ List.replicate (kk - t) (.slice none 0 0))) ∧ Hid (LimIn wc.heap.size wr svs cs) ∧ Below wc.heap.size wc wr) (fun _ iv _ => kk - (intOf iv).toNat)
  case atStart => exact ⟨0, [], [], Nat.zero_le _, rfl, rfl, rfl, fun c h => absurd h List.not_mem_nil, hown, ⟨rfl, fun i c h => absurd h (by simp)⟩, hb1⟩
  case round =>
    have hwc1 := (hown.lt wc.heap.size rfl).2
    clear hown hb1 hwc1
    obtain ⟨t, svs, cs, ht, rfl, rfl, HL, HC6, HOWN, HIN, hb⟩ := hrel
    have hsum := sum_le_of cs 6000 HC6.out
    rw [HL.out] at hsum
    obtain ⟨sm, hsm⟩ : ∃ sm, cs.sum = sm := ⟨_, rfl⟩
    have HSM := Lib.hid hsm
    rw [hsm] at hsum ⊢
    have hsm2 : sm ≤ 414000 := Nat.le_trans hsum (Nat.le_trans (Nat.mul_le_mul_right 6000 (show t ≤ 69 by omega)) (by omega))
    have hwH : wc.heap.size < wr.heap.size := (HOWN.out.lt wc.heap.size rfl).2
    clear hsm hsum
    by_cases hlt : t < kk
    · obtain ⟨q, hq⟩ : ∃ q, mm / kk = q := ⟨_, rfl⟩
      have hqi : (mm : Int) / (kk : Int) = (q : Int) := by rw [← hq]; push_cast; rfl
      have hqm : q ≤ 5999 := by rw [← hq]; exact Nat.le_trans (Nat.div_le_self _ _) hmm
      obtain ⟨p, hp⟩ : ∃ p, q * (kk - 1) = p := ⟨_, rfl⟩
      have hpm : p ≤ mm := by
        rw [← hp, ← hq]
        exact Nat.le_trans (Nat.mul_le_mul_left _ (Nat.sub_le _ _)) (Nat.div_mul_le_self mm kk)
      have hpi : (q : Int) * ((kk : Int) - 1) = (p : Int) := by
        have e : ((kk : Int) - 1) = ((kk - 1 : Nat) : Int) := by omega
        rw [e, ← hp]; push_cast; rfl
      have hk0 : 0 < kk := by omega
      clear hp hq
      go_upto_if 49 with fail
      go_cut [13] (fun s13 wx => ∃ (c : Nat), c ≤ 6000 ∧ s13 = .int .i64 (c : Int) ∧ wr = wx)
      case first =>
        by_cases e0 : t = 0
        · subst e0
          go_wp2_with fail
          go_meet
          exact ⟨mm - p, by omega, by congr 1; omega, rfl⟩
        · have e1 : ((t : Int) == 0) = false := by simp; omega
          go_wp2_with fail
          go_meet
          exact ⟨q, by omega, rfl, rfl⟩
      case rest =>
      obtain ⟨c, hc, rfl, rfl⟩ := hcut
      clear hqi hqm hpm hpi
      obtain ⟨mk1, hmk1⟩ : ∃ m, m = madeCells #[Value.int .i64 0, Value.int .i64 0, Value.int .i64 0] (c * 3) := ⟨_, rfl⟩
      have hmake1 : ∀ W, Sem.run Tryd.prog (Instr.makeSlice 43 (.int .i64 (c : Int)) (.int .i64 (c : Int))) W = .ok (.slice (some ⟨W.heap.size, 0, none⟩) c c) (W.alloc (.cells mk1 40)) := fun W => by
        have := run_makeSlice (P := Tryd.prog) (w := W) 43 40 i0 _ Tryd.underlying43 hi0 hz0 .i64 .i64 (c : Int) (c : Int) (by omega) (Int.le_refl _) (by rw [hz1]; omega) (by rw [hz2]; omega) (by omega)
        rw [hz1] at this
        rw [hmk1]
        simpa [Value.cells] using this
      have ho2 := ownsRow_below HOWN.out ((Below.refl wr.heap.size wr).alloc (Nat.le_refl _) (.cells mk1 40))
      have hcl : ∃ v0, (wr.alloc (.cells mk1 40)).cell? ⟨wc.heap.size, t, none⟩ = some v0 := by
        refine ⟨_, (ho2.cellAt t (by omega)).trans (List.getElem?_eq_getElem (by have := HIN.out.1; have := HL.out; simp; omega))⟩
      obtain ⟨v0, hcl⟩ := hcl
      have hfl := ho2.frozenAt t
      have hnew := (ho2.stored t (.slice (some ⟨wr.heap.size, 0, none⟩) c c)).1
      have eset : (svs ++ List.replicate (kk - t) (Value.slice none 0 0)).set t (.slice (some ⟨wr.heap.size, 0, none⟩) c c) = (svs ++ [.slice (some ⟨wr.heap.size, 0, none⟩) c c]) ++ List.replicate (kk - (t + 1)) (Value.slice none 0 0) := by
        have hl : svs.length = t := by rw [HIN.out.1, HL.out]
        rw [List.set_append_right _ _ (by omega), hl, Nat.sub_self, show kk - t = (kk - (t + 1)) + 1 by omega, List.replicate_succ, List.set_cons_zero, List.append_assoc]
        rfl
      rw [eset] at hnew
      have hin := HIN.out.step (k := t) (c := c) (t := 40) hwH
      rw [← hmk1] at hin
      have hbn := (below_alloc hb (Nat.le_refl _) (.cells mk1 40)).setCell (p := ⟨wc.heap.size, t, none⟩) (Nat.le_refl _) (.slice (some ⟨wr.heap.size, 0, none⟩) c c)
      rw [World.setCell_alloc_past (hn := hwH)] at hnew hin hbn
      have HNEW := Lib.hid hnew
      have HINN := Lib.hid hin
      have HBN := Lib.hid hbn
      clear hnew hin hbn eset ho2 hmk1 hb
      go_wp2_with fail
      go_roundw
      case rel => exact ⟨t + 1, _, cs ++ [c], by omega, by go_num, by rw [List.sum_append, HSM.out]; simp, by show _ = _; rw [List.length_append, HL.out]; rfl, fun q hq => by
          rcases List.mem_append.1 hq with h | h
          · exact HC6.out q h
          · simp at h; subst h; exact hc, HNEW.out, HINN.out, HBN.out⟩
      case measure => simp [intOf]; omega
    · obtain rfl : t = kk := by omega
      obtain ⟨mk2, hmk2⟩ : ∃ m, m = madeCells #[Value.int .i64 0] nn := ⟨_, rfl⟩
      have hmake2 : ∀ W, Sem.run Tryd.prog (Instr.makeSlice 22 (.int .i64 (nn : Int)) (.int .i64 (nn : Int))) W = .ok (.slice (some ⟨W.heap.size, 0, none⟩) nn nn) (W.alloc (.cells mk2 3)) := fun W => by
        have := run_makeSlice (P := Tryd.prog) (w := W) 22 3 i2 (.int .i64 0) Tryd.underlying22 hi2 hx0 .i64 .i64 (nn : Int) (nn : Int) (by omega) (Int.le_refl _) (by rw [hx1]; omega) (by rw [hx2]; omega) (by omega)
        rw [hx1] at this
        rw [hmk2]
        simpa [Value.cells] using this
      have hown := HOWN.out
      rw [Nat.sub_self, List.replicate_zero, List.append_nil] at hown
      have hscr := HIN.out.scr hown HL.out hwH
      have hb2 : Below wr.heap.size wr (wr.alloc (.cells mk2 3)) := (Below.refl _ _).alloc (Nat.le_refl _) _
      have hscr2 := hscr.below hb2 (Nat.le_refl _)
      have hon : opsN (cs.map zs) = sm := by rw [opsN_zs]; exact HSM.out
      have hrow : Row 0 (wr.heap.size + 1) (wr.alloc (.cells mk2 3)) (some ⟨wr.heap.size, 0, none⟩) nn ((List.replicate nn 0).map Int.ofNat) := by
        rw [hmk2]
        exact ((own_made wr nn 3).row (n := nn) (lo := 0) (hi := wr.heap.size + 1) (by simp) (Nat.zero_le _) (Nat.lt_succ_self _)).ints
      have hsz : wr.heap.size + 1 ≤ (wr.alloc (.cells mk2 3)).heap.size := by simp
      have HB2 : Hid (Below wc.heap.size wc (wr.alloc (.cells mk2 3))) := hb.trans (hb2.mono hb.size)
      have hTab : Hid (Tab (wr.alloc (.cells mk2 3))) := HT.out.below HB2.out hTl
      have HSCR := Lib.hid hscr2
      have HROW := Lib.hid hrow
      have HON := Lib.hid hon
      clear hown hscr hb2 hscr2 hon hrow hmk2 hb
      go_wp2_with fail
      generalize wr.alloc (.cells mk2 3) = w3 at *
      have HNO : Hid (¬ (nn ≤ 4096 ∧ t ≤ 64 ∧ opsN (cs.map zs) ≤ 4096) → Calls Tryd.prog 16 #[.slice (some ⟨wr.heap.size, 0, none⟩) nn nn, .slice (some ⟨wc.heap.size, 0, none⟩) t t, .slice none 0 0] w3 fun e w' => e = .returned (.tuple #[.slice none 0 0, .slice none 0 0, .int .i64 0]) ∧ w3 = w') := fun h =>
        play_no _ _ _ _ _ _ _ _ _ (cs.map zs) w3 HSCR.out (by omega) (by rw [HON.out]; omega) h
      have HA3 : Hid (∀ w4, Below w3.heap.size w3 w4 → Calls Tryd.prog 15 #[] w4 fun e w' => e = .returned (.bool true) ∧ Below wc.heap.size wc w') := fun w4 h4 => by
        have hB4 := HB2.out.trans (h4.mono HB2.out.size)
        refine (awake_any5 w4 (hTab.out.below h4 hTab.out.lt)).mono ?_
        rintro e w' ⟨rfl, hb5⟩
        exact ⟨rfl, hB4.trans (hb5.mono hB4.size)⟩
      by_cases g1 : 4096 < nn
      · refine (HNO.out (fun h => by omega)).mono ?_
        rintro e w4 ⟨rfl, rfl⟩
        have HAW := Lib.hid (HA3.out _ (Below.refl _ _))
        go_wp2_with (first | (go_at_call 15; (with_reducible refine (HAW.out).mono ?_); rintro e w' ⟨rfl, hb5⟩))
        go_ret
        exact ⟨rfl, hb5⟩
      by_cases g2 : 64 < t
      · refine (HNO.out (fun h => by omega)).mono ?_
        rintro e w4 ⟨rfl, rfl⟩
        have HAW := Lib.hid (HA3.out _ (Below.refl _ _))
        go_wp2_with (first | (go_at_call 15; (with_reducible refine (HAW.out).mono ?_); rintro e w' ⟨rfl, hb5⟩))
        go_ret
        exact ⟨rfl, hb5⟩
      by_cases g3 : 4096 < sm
      · refine (HNO.out (fun h => by have := HON.out; omega)).mono ?_
        rintro e w4 ⟨rfl, rfl⟩
        have HAW := Lib.hid (HA3.out _ (Below.refl _ _))
        go_wp2_with (first | (go_at_call 15; (with_reducible refine (HAW.out).mono ?_); rintro e w' ⟨rfl, hb5⟩))
        go_ret
        exact ⟨rfl, hb5⟩
      refine (play_any _ _ none nn nn t t 0 0 ((List.replicate nn 0).map Int.ofNat) [] (cs.map zs) w3 HROW.out hsz HSCR.out (by omega) (lx := 0) (hx := 0) ⟨rfl, .inl rfl⟩ (Nat.zero_le _) (Nat.le_refl _) (by omega) (by omega) (by rw [HON.out]; omega) (by omega) hTab.out).mono ?_
      rintro e w4 ⟨T, gb, cu, ev, rfl, hov, hown, _, hb4⟩
      obtain rfl : T = 0 := hov.uniq (lim_over _ nn cs)
      obtain ⟨ae, ce, rfl⟩ : ∃ a c, ev = .slice a 0 c := by
        obtain ⟨_, ⟨rfl, _⟩ | ⟨g, cap, cur, rfl, _⟩⟩ := hown
        · exact ⟨_, _, rfl⟩
        · exact ⟨_, _, rfl⟩
      have HAW := Lib.hid (HA3.out w4 hb4)
      have k1 : ((nn : Int) == (nn : Int)) = true := by simp
      clear hov hown hb4
      go_wp2_with (first | (go_at_call 15; (with_reducible refine (HAW.out).mono ?_); rintro e w' ⟨rfl, hb5⟩))
      go_ret
      exact ⟨rfl, hb5⟩

end Go.Proofs.YthhcchdjeeigpaaDoor

namespace Go.Proofs.YthhcchdjeeigpaaDoor
open Go.RowKit
set_option linter.unusedVariables false
set_option linter.unusedSimpArgs false

theorem Tryd.evWide : (match Tryd.prog.underlying 42 with | some (.array _ _) | some (.struct _) => true | _ => false) = true := by kernel_rfl
theorem Tryd.evDeep : Tryd.prog.keyTypeAt 3 42 = true := by kernel_rfl
theorem Tryd.evCells : Tryd.prog.cellsOf 42 = 8 := by kernel_rfl
theorem Tryd.evOpCells : Tryd.prog.cellsOf 40 = 3 := by kernel_rfl
theorem Tryd.evIntCells : Tryd.prog.cellsOf 3 = 1 := by kernel_rfl
theorem Tryd.evType : Tryd.prog.keyType 42 = true := by kernel_rfl
theorem Tryd.evGuard : Tryd.prog.eqGuardType Tryd.prog.depth 42 = false := by kernel_rfl
theorem Tryd.typesPos3 : ∃ m, Tryd.prog.types.size = m + 3 := ⟨Tryd.prog.types.size - 3, by have : 3 ≤ Tryd.prog.types.size := of_decide_eq_true (by kernel_rfl); omega⟩

/-- An event's numbers are int's. -/
structure EvFits (e : Ev) : Prop where
  f1 : fits e.wk
  f2 : fits e.k
  f3 : fits e.x
  f4 : fits e.y
  f5 : fits e.res
  f6 : fits e.bg
  f7 : fits e.pl
  f8 : fits e.en
abbrev evV (e : Ev) : Value := .agg #[.int .i64 e.wk, .int .i64 e.k, .int .i64 e.x, .int .i64 e.y, .int .i64 e.res, .int .i64 e.bg, .int .i64 e.pl, .int .i64 e.en]
theorem ev_fits_wf {x : Int} (h : fits x) : (Lit.int .i64 x).wf = true := by
  obtain ⟨h1, h2⟩ := h
  simp [Lit.wf, IntKind.min, IntKind.max, IntKind.signed, IntKind.bits]
  omega
theorem ev_key {e : Ev} (h : EvFits e) : ∃ l, keyOf Tryd.prog 42 (evV e) = some l := by
  obtain ⟨m, hm⟩ := Tryd.typesPos3
  unfold keyOf
  simp only [Tryd.underlying42, Tryd.evType]
  rw [hm]
  simp [Program.keyLits, Value.formed, Tryd.underlying42, Tryd.underlying40, Tryd.evCells, Tryd.evOpCells, Tryd.evIntCells, Tryd.underlying3, Value.cells, ev_fits_wf h.f1, ev_fits_wf h.f2, ev_fits_wf h.f3, ev_fits_wf h.f4, ev_fits_wf h.f5, ev_fits_wf h.f6, ev_fits_wf h.f7, ev_fits_wf h.f8]
  rw [if_pos (by intro i hi; match i, hi with | 0, _ => simp | 1, _ => simp | 2, _ => simp)]
  exact ⟨_, rfl⟩
set_option maxRecDepth 100000 in
theorem ev_guard (x y : Operand) (a b : Array Value) (w : World) : (eqGuard .neq 42 x y (.agg a) (.agg b)).run Tryd.prog w = .ok () w := by
  unfold eqGuard
  simp only [Tryd.evGuard]
  simp [Result.andThen]
set_option maxRecDepth 100000 in
theorem ev_same {e : Ev} (w : World) (h : EvFits e) : (binOp .neq 42 (evV e) (evV e)).run Tryd.prog w = .ok (.bool false) w := by
  obtain ⟨l, hl⟩ := ev_key h
  obtain ⟨b, hb, hiff⟩ := run_equal_deep (P := Tryd.prog) w (m := 3) (by omega) Tryd.evDeep Tryd.evWide hl hl
  obtain rfl := hiff.2 rfl
  simp [binOp, hb, Result.andThen]

theorem At.eight {w : World} {b off i : Nat} {es : List Ev} {q : Ev} (h : At 8 w b off (es.map ecells)) (hq : es[i]? = some q) : w.cell? ⟨b, off + i * 8, none⟩ = some (.int .i64 q.wk) ∧ w.cell? ⟨b, off + i * 8 + 1, none⟩ = some (.int .i64 q.k) ∧ w.cell? ⟨b, off + i * 8 + 2, none⟩ = some (.int .i64 q.x) ∧ w.cell? ⟨b, off + i * 8 + 3, none⟩ = some (.int .i64 q.y) ∧ w.cell? ⟨b, off + i * 8 + 4, none⟩ = some (.int .i64 q.res) ∧ w.cell? ⟨b, off + i * 8 + 5, none⟩ = some (.int .i64 q.bg) ∧ w.cell? ⟨b, off + i * 8 + 6, none⟩ = some (.int .i64 q.pl) ∧ w.cell? ⟨b, off + i * 8 + 7, none⟩ = some (.int .i64 q.en) := by
  have hx : (es.map ecells)[i]? = some (ecells q) := by rw [List.getElem?_map, hq]; rfl
  exact ⟨h i _ hx 0 _ rfl, h i _ hx 1 _ rfl, h i _ hx 2 _ rfl, h i _ hx 3 _ rfl, h i _ hx 4 _ rfl, h i _ hx 5 _ rfl, h i _ hx 6 _ rfl, h i _ hx 7 _ rfl⟩

theorem At.drewN {k b off : Nat} {w : World} {xs : List (List Value)} (h : At k w b off xs) (q : Nat) : At k (w.drewN q) b off xs := fun i x hx j v hv => h i x hx j v hv

set_option maxRecDepth 100000 in
set_option maxHeartbeats 2000000 in
theorem same_events (a1 a2 : Option Addr) (l c1 c2 : Nat) (es : List Ev) (w : World) {lo1 hi1 lo2 hi2 : Nat} (h1 : Sl 8 lo1 hi1 w a1 l (es.map ecells)) (h2 : Sl 8 lo2 hi2 w a2 l (es.map ecells)) (hf : ∀ e ∈ es, EvFits e) (hm : l ≤ 1000000) :
    Calls Tryd.prog 18 #[.slice a1 l c1, .slice a2 l c2] w fun e w' => e = .returned (.bool true) ∧ ∃ q, w' = w.drewN q := by
  have HL : Hid (es.length = l) := Lib.hid (by have := h1.1; simpa using this)
  have H1 := Lib.hid h1
  have H2 := Lib.hid h2
  have HF := Lib.hid hf
  have hne : ((l : Int) != (l : Int)) = false := by simp
  clear h1 h2 hf
  go_enter Tryd.func18, Tryd.ntmps18
  go_wp2_with fail
  go_loopw [5] (fun iv wr => ∃ (k q : Nat), k ≤ l ∧ iv = .int .i64 (k : Int) ∧ wr = w.drewN q) (fun iv _ => l - (intOf iv).toNat)
  case atStart => exact ⟨0, 0, Nat.zero_le _, rfl, rfl⟩
  case round =>
    obtain ⟨k, q, hk, rfl, rfl⟩ := hrel
    by_cases hlt : k < l
    · obtain ⟨b, off, rfl, _, _, hc⟩ := H1.out.at (by omega)
      obtain ⟨b', off', rfl, _, _, hc'⟩ := H2.out.at (by omega)
      obtain ⟨e, he⟩ : ∃ e, es[k]? = some e := ⟨_, List.getElem?_eq_getElem (by have := HL.out; omega)⟩
      obtain ⟨_, _, _, _, _, _, _, _⟩ := hc.eight he
      obtain ⟨_, _, _, _, _, _, _, _⟩ := hc'.eight he
      have hfit := HF.out e (List.mem_of_getElem? he)
      have hsame := fun W : World => ev_same W hfit
      have hgd := fun (x y : Operand) (a b : Array Value) (W : World) => ev_guard x y a b W
      obtain ⟨e1, e2, e3, e4, e5, e6, e7, e8⟩ := e
      dsimp only at *
      clear hc hc' he hfit
      go_wp2_with fail
      go_region
      all_goals go_wp2_with fail
      all_goals go_roundw
      case rel => exact ⟨k + 1, q + 1, by omega, by go_num, rfl⟩
      case measure => simp [intOf]; omega
    · obtain rfl : k = l := by omega
      go_wp2_with fail
      go_ret
      exact ⟨rfl, q, rfl⟩

/-- A play looks at the picks of its steps alone. -/
theorem run_same {n : Nat} {pr a b : List Int} {g : Gm} (hg : g.tm = 0) : ∀ T, T ≤ a.length → T ≤ b.length → (∀ t, t < T → a.getD t 0 = b.getD t 0) → run pr a g T = run pr b g T ∧ (run pr a g T).tm ≤ T
  | 0, _, _, _ => ⟨rfl, by show g.tm ≤ 0; omega⟩
  | T + 1, h1, h2, h => by
    obtain ⟨ih, ht⟩ := run_same (n := n) (pr := pr) (a := a) (b := b) hg T (by omega) (by omega) fun t q => h t (by omega)
    unfold run
    rw [← ih]
    split
    · exact ⟨rfl, by omega⟩
    · have e : (run pr a g T).who a = (run pr a g T).who b := by
        unfold Gm.who whoN
        rw [if_pos (show (run pr a g T).tm < a.length by omega), if_pos (show (run pr a g T).tm < b.length by omega), h _ (show (run pr a g T).tm < T + 1 by omega)]
      rw [e]
      exact ⟨rfl, by show (run pr a g T).tm + 1 ≤ T + 1; omega⟩

end Go.Proofs.YthhcchdjeeigpaaDoor

namespace Go.Proofs.YthhcchdjeeigpaaDoor
open Go.RowKit
set_option linter.unusedVariables false
set_option linter.unusedSimpArgs false

/-- Over: cells that may be, two of them of one root as of all unitings. -/
theorem over_for {pr xs : List Int} {n : Nat} {ss : List (List O3)} {T : Nat} (h : Over pr xs n ss T) : For n pr (stAt pr xs n ss T).up := by
  obtain ⟨h1, L⟩ := run_lin (pr := pr) (picks := xs) (all_ok n ss) T h.1
  have := L.F T (by omega)
  exact this
theorem over_two {pr xs ys : List Int} {n : Nat} {ss : List (List O3)} {T T' : Nat} (h : Over pr xs n ss T) (h' : Over pr ys n ss T') {x y : Nat} (hx : x < n) (hy : y < n) : rtu (stAt pr xs n ss T).up x = rtu (stAt pr xs n ss T).up y ↔ rtu (stAt pr ys n ss T').up x = rtu (stAt pr ys n ss T').up y :=
  (left_is (all_ok n ss) h.1 h.2 hx hy).trans (left_is (all_ok n ss) h'.1 h'.2 hx hy).symm

theorem over_ext {pr a b : List Int} {n : Nat} {ss : List (List O3)} {T : Nat} (h : Over pr a n ss T) (hT : T ≤ a.length) : Over pr (a ++ b) n ss T ∧ stAt pr (a ++ b) n ss T = stAt pr a n ss T := by
  have key : ∀ t, t ≤ T → stAt pr (a ++ b) n ss t = stAt pr a n ss t := fun t ht =>
    (run_same (n := n) (pr := pr) (a := a) (b := a ++ b) (g := gm0 n (ss.map (valid n))) rfl t (by omega) (by simp; omega) fun q hq => by
      rw [List.getD_eq_getElem?_getD, List.getD_eq_getElem?_getD, List.getElem?_append_left (by omega)]).1.symm
  refine ⟨⟨fun t ht => ?_, ?_⟩, key T (Nat.le_refl _)⟩
  · rw [key t (by omega)]; exact h.1 t ht
  · rw [key T (Nat.le_refl _)]; exact h.2
theorem ev_fits {pr xs : List Int} {n : Nat} {ss : List (List O3)} {T : Nat} (h : Over pr xs n ss T) (hM : Made n ss) (hn : n ≤ 16) (hs : ss.length ≤ 8) (hT : T ≤ 1000000) : ∀ e ∈ (stAt pr xs n ss T).l, EvFits e := by
  intro e he
  obtain ⟨htm, L⟩ := run_lin (pr := pr) (picks := xs) (all_ok n ss) T h.1
  have E := L.evs e he
  obtain ⟨bg, pl, en, e1, e2, e3, e4, e5, e6, e7⟩ := E.t
  rw [htm] at e7
  obtain ⟨w, hw, hwk⟩ := (run_ordd (n := n) (pr := pr) (picks := xs) (ss := ss.map (valid n)) T).who e he
  rw [List.length_map] at hw
  have h1 := over_evs (n := n) (pr := pr) (picks := xs) (ss := ss.map (valid n)) (T := T) h.2 w (valid n (ss[w])) (by rw [List.getElem?_map, List.getElem?_eq_getElem hw]; rfl)
  have h2 : e.tr ∈ evs w (run pr xs (gm0 n (ss.map (valid n))) T).l := List.mem_map_of_mem (List.mem_filter.2 ⟨he, by simpa using hwk⟩)
  rw [h1] at h2
  obtain ⟨o, ho, h3⟩ := List.mem_map.1 h2
  unfold valid at ho
  obtain ⟨q, hq, rfl⟩ := List.mem_map.1 ho
  have hq' := List.mem_filter.1 hq
  obtain ⟨⟨k1, k2, k3, k4⟩, k5, k6⟩ := (hM _ (List.getElem_mem hw)).2 q hq'.1
  have t1 : ((toOpn q).k : Int) = e.k := congrArg Prod.fst h3
  have t2 : ((toOpn q).x : Int) = e.x := congrArg (fun z => z.2.1) h3
  have t3 : (toOpn q).y = e.y := congrArg (fun z => z.2.2) h3
  have u1 : ((q.1.toNat : Nat) : Int) = e.k := t1
  have u2 : ((q.2.1.toNat : Nat) : Int) = e.x := t2
  have u3 : q.2.2 = e.y := t3
  have hres : 0 ≤ e.res ∧ e.res ≤ 1000 := by
    rcases E.r with ⟨_, r1, r2, _⟩ | ⟨_, ⟨r, _⟩ | ⟨r, _⟩⟩ | ⟨_, ⟨r, _⟩ | ⟨r, _⟩⟩ <;> omega
  clear h2 h1 hq hq' ho h3 t1 t2 t3 E L
  constructor <;> unfold fits <;> omega
theorem own_ints {w : World} {base n : Nat} {e : TypeId} {v : Value} {xs : List Int} (h : w.ownsRow base e 1 v n (xs.map (Value.int .i64))) (hl : xs.length = n) : ∃ a c, v = .slice a n c ∧ n ≤ c ∧ Row base w.heap.size w a n xs := by
  have hc : ∃ a c, v = .slice a n c ∧ n ≤ c := by
    obtain ⟨_, ⟨rfl, h0⟩ | ⟨g, cap, cur, rfl, hb, hg, hcap, _⟩⟩ := id h
    · exact ⟨none, 0, by rw [h0], by omega⟩
    · exact ⟨_, _, rfl, hcap⟩
  obtain ⟨a, c, rfl, hcap⟩ := hc
  subst hl
  obtain ⟨a1, c1', e1, h2⟩ := RowF.of_owns (f := Value.int .i64) (d := (0 : Int)) h
  injection e1 with e2 e3 e4
  subst e2
  exact ⟨_, _, rfl, hcap, h2⟩
theorem row_news {w : World} {lo hi n : Nat} {ad : Addr} {xs : List Int} (h : Row lo hi w (some ad) n xs) : ∀ j u, (xs.map (Value.int .i64))[j]? = some u → w.cell? (ad.add j) = some u := by
  intro j u hu
  obtain ⟨hl, h0⟩ := h
  have hj : j < xs.length := by have := (List.getElem?_eq_some_iff.1 hu).1; simpa using this
  obtain ⟨b, off, e, _, _, hc⟩ := h0.resolve_left (by omega)
  obtain rfl := Option.some.inj e
  have := hc j (by omega)
  rw [List.getElem?_map, List.getElem?_eq_getElem hj] at hu
  rw [show (⟨b, off, none⟩ : Addr).add j = ⟨b, off + j, none⟩ by simp [Addr.add]]
  rw [this, ← hu]
  simp [List.getD, hj]
theorem ints_one (xs : List Int) : ∀ u ∈ xs.map (Value.int .i64), u.oneCell' = true := by
  intro u hu
  obtain ⟨x, _, rfl⟩ := List.mem_map.1 hu
  rfl
theorem owns_made5 {w : World} (base : Nat) (hb : base ≤ w.heap.size) : (w.alloc (.cells #[] 3)).ownsRow base 3 1 (.slice (some ⟨w.heap.size, 0, none⟩) 0 0) 0 [] := by
  exact ⟨rfl, .inr ⟨w.heap.size, 0, #[], rfl, hb, heap_alloc_new w _, Nat.le_refl _, by decide, rfl, rfl⟩⟩

set_option maxRecDepth 100000 in
set_option maxHeartbeats 4000000 in
theorem picks_law (a1 a2 a3 a4 : Option Addr) (l1 l2 l3 l4 c1 c2 c3 c4 : Nat) (x1 : List Nat) (x3 x4 : List Int) (w : World) (h1 : RowY 0 w.heap.size w a1 l1 x1) (b1 : ∀ i, i < l1 → x1.getD i 0 ≤ 255) (m1 : l1 ≤ 9223372036854775807) (h2 : GridY w a2 l2)
    (h3 : Row 0 w.heap.size w a3 l3 x3) (m3 : l3 ≤ c3) (h4 : Row 0 w.heap.size w a4 l4 x4) (m4 : l4 ≤ c4) (z3 : a3 = none → l3 = 0 ∧ c3 = 0) (z4 : a4 = none → l4 = 0 ∧ c4 = 0) (hT : Tab w) :
    Calls Tryd.prog 8 #[.slice a1 l1 c1, .slice a2 l2 c2, .slice a3 l3 c3, .slice a4 l4 c4] w fun e w' => e = .returned (.bool true) ∧ Below w.heap.size w w' := by
  obtain ⟨n, hn⟩ : ∃ n : Nat, (1 : Int) + (l1 : Int) % 16 = (n : Int) := ⟨1 + l1 % 16, by omega⟩
  have hn0 : 0 < n := by omega
  have hn1 : n ≤ 16 := by omega
  have H1 := Lib.hid h1
  have B1 := Lib.hid b1
  have H2 := Lib.hid h2
  have H3 := Lib.hid h3
  have H4 := Lib.hid h4
  have Z3 := Lib.hid z3
  have Z4 := Lib.hid z4
  have HT := Lib.hid hT
  have hTl := hT.lt
  clear h1 b1 h2 h3 h4 z3 z4 hT
  by_cases g3 : (300 : Int) < (l3 : Int)
  · have HA := Lib.hid (awake_any5 w HT.out)
    go_enter Tryd.func8, Tryd.ntmps8
    go_wp2_with (first | (go_at_call 15; (with_reducible refine (HA.out).mono ?_); rintro e w' ⟨rfl, hb⟩))
    go_ret
    exact ⟨rfl, hb⟩
  by_cases g4 : (300 : Int) < (l4 : Int)
  · have HA := Lib.hid (awake_any5 w HT.out)
    go_enter Tryd.func8, Tryd.ntmps8
    go_wp2_with (first | (go_at_call 15; (with_reducible refine (HA.out).mono ?_); rintro e w' ⟨rfl, hb⟩))
    go_ret
    exact ⟨rfl, hb⟩
  go_enter Tryd.func8, Tryd.ntmps8
  go_wp2_with fail
  clear hn
  refine (prio_any a1 l1 c1 x1 n _ H1.out B1.out (Nat.le_refl _) m1 (by omega)).mono ?_
  rintro e w2 ⟨gp, pr, rfl, hgp, hrp, hb2⟩
  have s2 := hb2.size
  have HRP := Lib.hid hrp
  have HB2 := Lib.hid hb2
  clear hrp hb2
  go_wp2_with fail
  have hgrid : GridY w2 a2 l2 := by
    rcases H2.out with h | ⟨b, off, e, hb, hc⟩
    · exact .inl h
    · refine .inr ⟨b, off, e, by omega, fun i hi => ?_⟩
      obtain ⟨A, L, C, xs, e1, e2, e3, e4⟩ := hc i hi
      exact ⟨A, L, C, xs, (HB2.out.cell (p := ⟨b, off + i, none⟩) hb).trans e1, e2, (e3.below HB2.out (Nat.le_refl _)).mono (Nat.le_refl _) s2, e4⟩
  refine (scripts_any a2 l2 c2 n w2 hgrid hn0 (by omega)).mono ?_
  rintro e w3 ⟨a', c', ss, rfl, hs8, hmade, hscr, hb3⟩
  have s3 := hb3.size
  obtain ⟨W, hW⟩ : ∃ W, ss.length = W := ⟨_, rfl⟩
  have hs8' := hs8
  have HS8 := Lib.hid hs8'
  rw [hW] at hs8 hscr ⊢
  have HMD := Lib.hid hmade
  have hon := made_opsN hmade
  rw [hW] at hon
  have hon2 : opsN ss ≤ 192 := by omega
  have HON := Lib.hid hon2
  have HSC := Lib.hid hscr
  have HB3 : Hid (Below w.heap.size w w3) := HB2.out.trans (hb3.mono s2)
  have HP3 : Hid (Row w.heap.size w2.heap.size w3 (some ⟨gp, 0, none⟩) n pr) := HRP.out.below hb3 (Nat.le_refl _)
  have HT3 : Hid (Tab w3) := HT.out.below HB3.out hTl
  clear hscr hmade hb3 hon hon2 hW hgrid hs8'
  go_wp2_with fail
  refine (play_any (some ⟨gp, 0, none⟩) a' a3 n n W c' l3 c3 pr x3 ss w3 HP3.out s3 HSC.out (Nat.le_refl _) (H3.out.below HB3.out (Nat.le_refl _)) (Nat.le_trans s2 s3) m3 (by omega) (by omega) (by have := HON.out; omega) (by omega) HT3.out).mono ?_
  rintro e w4 ⟨T, gb, cu, ev, rfl, hov, hown, hup, hb4⟩
  have s4 := hb4.size
  obtain ⟨ae, ce, rfl, _, hse⟩ := Sl.of_owns ecells_length hown rfl
  have HOV := Lib.hid hov
  have HSE := Lib.hid hse
  have HUP := Lib.hid hup
  have HB4 : Hid (Below w.heap.size w w4) := HB3.out.trans (hb4.mono (Nat.le_trans s2 s3))
  have HP4 : Hid (Row w.heap.size w2.heap.size w4 (some ⟨gp, 0, none⟩) n pr) := HP3.out.below hb4 s3
  have HSC4 : Hid (Scr w3.heap.size w4 a' W ss) := HSC.out.below hb4 (Nat.le_refl _)
  have HT4 : Hid (Tab w4) := HT.out.below HB4.out hTl
  have hTb := over_le hov.1
  obtain ⟨E, hE⟩ : ∃ E, (stAt pr x3 n ss T).l.length = E := ⟨_, rfl⟩
  have hEm : E ≤ 192 := by rw [← hE]; have := len_le (pr := pr) (xs := x3) (n := n) (ss := ss) T; have := opsIn_valid n ss; have := HON.out; omega
  rw [hE] at HSE ⊢
  have HEH := Lib.hid hE
  clear hov hown hse hup hb4 hE
  go_wp2_with fail
  refine (play_any (some ⟨gp, 0, none⟩) a' a4 n n W c' l4 c4 pr x4 ss w4 HP4.out (by omega) HSC4.out s4 (H4.out.below HB4.out (Nat.le_refl _)) (by omega) m4 (by omega) (by omega) (by have := HON.out; omega) (by omega) HT4.out).mono ?_
  rintro e w5 ⟨T2, gb2, cu2, ev2, rfl, hov2, _, hup2, hb5⟩
  have s5 := hb5.size
  have HOV2 := Lib.hid hov2
  have HUP2 := Lib.hid hup2
  have HB5 : Hid (Below w.heap.size w w5) := HB4.out.trans (hb5.mono (by omega))
  have HOP5 := Lib.hid hb5
  have hg4 := HUP.out.1
  have HUP1 : Hid (Own w5 gb (stAt pr x3 n ss T).up) := HUP.out.below hb5 hg4
  have HF1 := Lib.hid (over_for HOV.out)
  have HF2 := Lib.hid (over_for hov2)
  have hl1 : (stAt pr x3 n ss T).up.length = n := HF1.out.len
  have hl2 : (stAt pr x4 n ss T2).up.length = n := HF2.out.len
  have HR1 : Hid (RowN 0 w5.heap.size w5 (some ⟨gb, 0, none⟩) n (stAt pr x3 n ss T).up) := HUP1.out.row hl1 (Nat.zero_le _) HUP1.out.1
  have HR2 : Hid (RowN 0 w5.heap.size w5 (some ⟨gb2, 0, none⟩) n (stAt pr x4 n ss T2).up) := hup2.row hl2 (Nat.zero_le _) hup2.1
  have hnn : ((n : Int) != (n : Int)) = false := by simp
  have HTWO : Hid (∀ x y, x < n → y < n → (rtu (stAt pr x3 n ss T).up x = rtu (stAt pr x3 n ss T).up y ↔ rtu (stAt pr x4 n ss T2).up x = rtu (stAt pr x4 n ss T2).up y)) := fun x y hx hy => over_two HOV.out hov2 hx hy
  clear hov2 hup2 hb5 hl1 hl2
  go_wp2_with fail
  clear hnn
  go_loopg [18] (n) (fun gn i wr => ∃ r : Nat, gn + r ≤ n ∧ n ≤ gn + r ∧ i = .int .i64 r ∧ w5 = wr)
  case atStart => exact ⟨0, by omega, by omega, rfl, rfl⟩
  case round =>
    obtain ⟨r, hr1, hr2, rfl, rfl⟩ := hrel
    by_cases hlt : r < n
    · go_wp2_with fail
      go_loopg [19] (r) (fun gn i wx => ∃ j : Nat, gn + j ≤ r ∧ r ≤ gn + j ∧ i = .int .i64 j ∧ w5 = wx)
      case atStart => exact ⟨0, by omega, by omega, rfl, rfl⟩
      case round =>
        obtain ⟨j, hj1, hj2, rfl, rfl⟩ := hrel
        by_cases hjl : j < r
        · have C1 := rroot_in (some ⟨gb, 0, none⟩) n cu pr _ r w5 HF1.out HR1.out hlt (by omega)
          have C2 := rroot_in (some ⟨gb, 0, none⟩) n cu pr _ j w5 HF1.out HR1.out (by omega) (by omega)
          have C3 := rroot_in (some ⟨gb2, 0, none⟩) n cu2 pr _ r w5 HF2.out HR2.out hlt (by omega)
          have C4 := rroot_in (some ⟨gb2, 0, none⟩) n cu2 pr _ j w5 HF2.out HR2.out (by omega) (by omega)
          have hiff := HTWO.out r j hlt (by omega)
          obtain ⟨p1, hp1⟩ : ∃ p, rtu (stAt pr x3 n ss T).up r = p := ⟨_, rfl⟩
          obtain ⟨p2, hp2⟩ : ∃ p, rtu (stAt pr x3 n ss T).up j = p := ⟨_, rfl⟩
          obtain ⟨p3, hp3⟩ : ∃ p, rtu (stAt pr x4 n ss T2).up r = p := ⟨_, rfl⟩
          obtain ⟨p4, hp4⟩ : ∃ p, rtu (stAt pr x4 n ss T2).up j = p := ⟨_, rfl⟩
          rw [hp1] at C1 hiff
          rw [hp2] at C2 hiff
          rw [hp3] at C3 hiff
          rw [hp4] at C4 hiff
          have K1 := Lib.hid C1
          have K2 := Lib.hid C2
          have K3 := Lib.hid C3
          have K4 := Lib.hid C4
          have hcase : (((p1 : Int) == (p2 : Int)) = true ∧ ((p3 : Int) == (p4 : Int)) = true) ∨ (((p1 : Int) == (p2 : Int)) = false ∧ ((p3 : Int) == (p4 : Int)) = false) := by
            by_cases h : p1 = p2
            · exact .inl ⟨by simp [h], by simp [hiff.1 h]⟩
            · have h' : ¬ p3 = p4 := fun q => h (hiff.2 q)
              exact .inr ⟨by simp; omega, by simp; omega⟩
          clear hp1 hp2 hp3 hp4 C1 C2 C3 C4 hiff
          rcases hcase with ⟨e1, e2⟩ | ⟨e1, e2⟩
          all_goals go_wp2_with (first | (go_at_call 26; (first | (with_reducible refine (K1.out).mono ?_) | (with_reducible refine (K2.out).mono ?_) | (with_reducible refine (K3.out).mono ?_) | (with_reducible refine (K4.out).mono ?_)); rintro e w' ⟨rfl, rfl⟩))
          all_goals (go_roundg (r - (j + 1)))
          case measure => omega
          case measure => omega
          case rel => exact ⟨j + 1, by omega, by omega, by go_num, rfl⟩
          case rel => exact ⟨j + 1, by omega, by omega, by go_num, rfl⟩
        · obtain rfl : j = r := by omega
          go_wp2_with fail
          go_roundg (n - (j + 1))
          case measure => omega
          case rel => exact ⟨j + 1, by omega, by omega, by go_num, rfl⟩
    · obtain rfl : r = n := by omega
      by_cases g7 : (l3 : Int) < (T : Int)
      · have HA := Lib.hid (awake_any5 w5 (HT.out.below HB5.out hTl))
        go_wp2_with (first | (go_at_call 15; (with_reducible refine (HA.out).mono ?_); rintro e w' ⟨rfl, hb6⟩))
        go_ret
        exact ⟨rfl, HB5.out.trans (hb6.mono HB5.out.size)⟩
      obtain ⟨i0, hi0, hz0, hz1, hz2⟩ := info_parts Tryd.intInfo1
      have kB : Below w5.heap.size w5 (w5.alloc (.cells #[] 3)) := (Below.refl _ _).alloc (Nat.le_refl _) _
      have HKB := Lib.hid kB
      have HD0 := Lib.hid (owns_made5 (w := w5) w5.heap.size (Nat.le_refl _))
      have sB5 := HB5.out.size
      have HA1 : Hid (Row 0 w.heap.size (w5.alloc (.cells #[] 3)) a3 l3 x3) := (H3.out.below HB5.out (Nat.le_refl _)).below kB sB5
      have HNEW1 : Hid (∀ ad, a3 = some ad → ∀ j u, (x3.map (Value.int .i64))[j]? = some u → (w5.alloc (.cells #[] 3)).cell? (ad.add j) = some u) := fun ad h => row_news (h ▸ HA1.out)
      have HX3 : Hid ((x3.map (Value.int .i64)).length = l3 * 1) := by show _ = _; rw [List.length_map, H3.out.1]; omega
      have HX4 : Hid ((x4.map (Value.int .i64)).length = l4 * 1) := by show _ = _; rw [List.length_map, H4.out.1]; omega
      clear kB
      go_wp2_with (at_builtin; refine wpList_append_any rfl (.tmp 101) (.tmp 102) 22 rfl w5.heap.size 3 i0 (.int .i64 0) 1 8 Tryd.underlying22 hi0 hz0 hz1 hz2 rfl (by decide) _ 0 [] rfl HD0.out a3 l3 c3 (x3.map (Value.int .i64)) rfl Z3.out HX3.out HNEW1.out (ints_one _) ?d4 ?d5 (by simp) ?_)
      case d4 => unfold maxLen; omega
      case d5 => omega
      intro v7 w7 hown7 hgr7
      have hb7 : Below w5.heap.size w5 w7 := HKB.out.grown hgr7 (by simp) (by rintro j hj; cases hj; exact Nat.le_refl _)
      have hs7 := hb7.size
      have HNEW2 : Hid (∀ ad, a4 = some ad → ∀ j u, (x4.map (Value.int .i64))[j]? = some u → w7.cell? (ad.add j) = some u) := fun ad h => row_news (h ▸ ((H4.out.below HB5.out (Nat.le_refl _)).below hb7 sB5))
      have HOWN7 := Lib.hid hown7
      clear hgr7 hown7 HD0 HNEW1 HKB HA1
      go_wp2_with (at_builtin; refine wpList_append_any rfl (.tmp 103) (.tmp 104) 22 rfl w5.heap.size 3 i0 (.int .i64 0) 1 8 Tryd.underlying22 hi0 hz0 hz1 hz2 rfl (by decide) v7 l3 _ rfl HOWN7.out a4 l4 c4 (x4.map (Value.int .i64)) rfl Z4.out HX4.out HNEW2.out (ints_one _) ?g4 ?g5 hs7 ?_)
      case g4 => unfold maxLen; omega
      case g5 => omega
      intro v8 w8 hown8 hgr8
      have hb8 : Below w5.heap.size w5 w8 := hb7.grown hgr8 hs7 (fun j hj => (HOWN7.out.lt j hj).1)
      rw [← List.map_append] at hown8
      obtain ⟨a8, c8, rfl, hc8, hr8⟩ := own_ints hown8 (by rw [List.length_append, H3.out.1, H4.out.1])
      have hs8w := hb8.size
      have HB8 : Hid (Below w.heap.size w w8) := HB5.out.trans (hb8.mono sB5)
      have HR8 := Lib.hid hr8
      have hTl3 : T ≤ x3.length := by rw [H3.out.1]; omega
      obtain ⟨hov8, hst8⟩ := over_ext (b := x4) HOV.out hTl3
      have HOV8 := Lib.hid hov8
      have HST8 := Lib.hid hst8
      have HP8 : Hid (Row w.heap.size w2.heap.size w8 (some ⟨gp, 0, none⟩) r pr) := (HP4.out.below HOP5.out (by omega)).below hb8 (by omega)
      have HSC8 : Hid (Scr w3.heap.size w8 a' W ss) := (HSC4.out.below HOP5.out s4).below hb8 (by omega)
      have HT8 : Hid (Tab w8) := HT.out.below HB8.out hTl
      have HFIT := Lib.hid (ev_fits HOV.out HMD.out hn1 HS8.out (by omega))
      have HSE8 : Hid (Sl 8 w3.heap.size w4.heap.size w8 ae E ((stAt pr x3 r ss T).l.map ecells)) := (HSE.out.below HOP5.out (Nat.le_refl _)).below hb8 (by omega)
      have HU8 : Hid (Own w8 gb (stAt pr x3 r ss T).up) := HUP1.out.below hb8 HUP1.out.1
      clear hown8 hgr8 hb7 hb8 hr8 hov8 hst8 hTl3 HOWN7 HNEW2
      go_wp2_with fail
      refine (play_any (some ⟨gp, 0, none⟩) a' a8 r r W c' (l3 + l4) c8 pr (x3 ++ x4) ss w8 HP8.out (by omega) HSC8.out (by omega) HR8.out (Nat.le_refl _) hc8 (by omega) (by omega) (by have := HON.out; omega) (by omega) HT8.out).mono ?_
      rintro e w9 ⟨T3, gb3, cu3, ev3, rfl, hov3, hown3, hup3, hb9⟩
      obtain rfl : T3 = T := hov3.uniq HOV8.out
      rw [HST8.out] at hown3 hup3
      rw [HEH.out] at hown3
      obtain ⟨a9, c9, rfl, _, hse9⟩ := Sl.of_owns ecells_length hown3 HEH.out
      have hs9 := hb9.size
      have HB9 : Hid (Below w.heap.size w w9) := HB8.out.trans (hb9.mono HB8.out.size)
      have HSM : Hid (Calls Tryd.prog 18 #[.slice ae E ce, .slice a9 E c9] w9 fun e w' => e = .returned (.bool true) ∧ ∃ q, w' = w9.drewN q) := same_events ae a9 E ce c9 _ w9 (HSE8.out.below hb9 (by omega)) hse9 HFIT.out (by omega)
      have hu9 := HU8.out.below hb9 HU8.out.1
      have HI : Hid (∀ q, Calls Tryd.prog 19 #[.slice (some ⟨gb, 0, none⟩) r cu, .slice (some ⟨gb3, 0, none⟩) r cu3] (w9.drewN q) fun e w' => e = .returned (.bool true) ∧ ∃ m, w' = (w9.drewN q).drewN m) := fun q => by
        have ra : RowN 0 w9.heap.size (w9.drewN q) (some ⟨gb, 0, none⟩) r (stAt pr x3 r ss T3).up := (hu9.drewN q).row HF1.out.len (Nat.zero_le _) hu9.1
        have rb : RowN 0 w9.heap.size (w9.drewN q) (some ⟨gb3, 0, none⟩) r (stAt pr x3 r ss T3).up := (hup3.drewN q).row HF1.out.len (Nat.zero_le _) hup3.1
        have := ints_any _ _ r r cu cu3 _ _ _ ra.ints rb.ints (by omega)
        simpa using this
      have HA : Hid (∀ q, Calls Tryd.prog 15 #[] (w9.drewN q) fun e w' => e = .returned (.bool true) ∧ Below w.heap.size w w') := fun q => by
        have hB := below_drewN' HB9.out q
        refine (awake_any5 _ (HT.out.below hB hTl)).mono ?_
        rintro e w' ⟨rfl, hb10⟩
        exact ⟨rfl, hB.trans (hb10.mono hB.size)⟩
      have kk : ((T3 : Int) == (T3 : Int)) = true := by simp
      clear hov3 hown3 hup3 hb9 hse9 hu9
      go_wp2_with (first | (go_at_call 18; go_loud ((with_reducible refine (HSM.out).mono ?_); rintro e w' ⟨rfl, q9, rfl⟩)) | (go_at_call 19; go_loud ((with_reducible refine (HI.out _).mono ?_); rintro e w' ⟨rfl, m9, rfl⟩)) | (go_at_call 15; go_loud ((with_reducible refine (HA.out _).mono ?_); rintro e w' ⟨rfl, hb10⟩)))
      go_ret
      exact ⟨rfl, hb10⟩

end Go.Proofs.YthhcchdjeeigpaaDoor

namespace Go.Proofs.YthhcchdjeeigpaaDoor
set_option linter.unusedVariables false
set_option linter.unusedSimpArgs false

def lastEn (l : List Ev) : Int := match l.getLast? with
  | none => 0
  | some e => e.en
theorem lastEn_snoc (l : List Ev) (e : Ev) : lastEn (l ++ [e]) = e.en := by unfold lastEn; simp
/-- One worker: each event begins right behind the one ahead of it. -/
structure One (g : Gm) : Prop where
  nx : ∀ (i : Nat) (e : Ev), g.l[i]? = some e → e.bg = lastEn (g.l.take i) + 1
  on : (g.wk 0).on = true → ((g.wk 0).bg : Int) = lastEn g.l + 1
  off : (g.wk 0).on = false → (g.tm : Int) = lastEn g.l
theorem one_adv {pr : List Int} {g : Gm} (O : One g) (hw : 0 < g.ws.length) (he : (g.wk 0).en = true) : One (adv pr g 0) := by
  have hon : (g.bg 0).on = true := (beg_rest he (g.tm + 1)).2
  have hbg : ((g.bg 0).bg : Int) = lastEn g.l + 1 := by
    unfold Gm.bg Wk.beg
    by_cases h : (g.wk 0).on = true
    · rw [if_pos h]; exact O.on h
    · rw [if_neg h]
      have h' : (g.wk 0).on = false := by simpa using h
      cases hl : (g.wk 0).left with
      | nil => unfold Wk.en at he; rw [h', hl] at he; cases he
      | cons o r => show ((g.tm + 1 : Nat) : Int) = _; rw [← O.off h']; simp
  have hsp : ((g.sp pr 0).bg : Int) = lastEn g.l + 1 := hbg
  have hso : (g.sp pr 0).on = !(g.sp pr 0).t.dn := rfl
  have hadv : (adv pr g 0).l = if (g.sp pr 0).t.dn then g.l ++ [evOf 0 (g.sp pr 0) (g.tm + 1)] else g.l := rfl
  have hwk : (adv pr g 0).wk 0 = g.sp pr 0 := by rw [wk_adv pr g 0 0 hw, if_pos rfl]
  have htm : (adv pr g 0).tm = g.tm + 1 := rfl
  cases hd : (g.sp pr 0).t.dn with
  | true =>
    rw [hd, if_pos rfl] at hadv
    refine ⟨fun i e h => ?_, fun h => ?_, fun h => ?_⟩
    · rw [hadv] at h ⊢
      by_cases hi : i < g.l.length
      · rw [List.getElem?_append_left hi] at h
        rw [List.take_append_of_le_length (by omega)]
        exact O.nx i e h
      · have hi2 : i = g.l.length := by have := (List.getElem?_eq_some_iff.1 h).1; simp at this; omega
        subst hi2
        rw [List.getElem?_append_right (Nat.le_refl _)] at h
        simp at h
        subst h
        rw [List.take_append_of_le_length (Nat.le_refl _), List.take_length]
        exact hsp
    · rw [hwk, hso, hd] at h; cases h
    · rw [hadv, lastEn_snoc, htm]; rfl
  | false =>
    rw [hd] at hadv
    simp at hadv
    refine ⟨fun i e h => ?_, fun h => ?_, fun h => ?_⟩
    · rw [hadv] at h ⊢; exact O.nx i e h
    · rw [hwk, hadv]; exact hsp
    · rw [hwk, hso, hd] at h; cases h
theorem one0 {n : Nat} {ss : List (List Opn)} (h : 0 < ss.length) : One (gm0 n ss) := by
  have hf : ((gm0 n ss).wk 0).on = false := by
    unfold Gm.wk gm0
    cases ss with
    | nil => simp at h
    | cons s r => rfl
  refine ⟨fun i e h => ?_, fun h => ?_, fun _ => rfl⟩
  · exact absurd (List.mem_of_getElem? h) List.not_mem_nil
  · rw [hf] at h; cases h
theorem run_one {n : Nat} {pr picks : List Int} {ss : List (List Opn)} (h : ss.length = 1) : ∀ T, One (run pr picks (gm0 n ss) T)
  | 0 => one0 (by omega)
  | T + 1 => by
    have ih := run_one (n := n) (pr := pr) (picks := picks) h T
    by_cases hne : on 0 (run pr picks (gm0 n ss) T).en = []
    · rw [run, if_pos hne]; exact ih
    · rw [run_next hne]
      have h1 := Gm.who_lt (picks := picks) hne
      have h2 := Gm.who_en (picks := picks) hne
      rw [run_len, h] at h1
      have h3 : (run pr picks (gm0 n ss) T).who picks = 0 := by omega
      rw [h3] at h2 ⊢
      exact one_adv ih (by rw [run_len]; omega) h2

/-- The unitings of a list of events, as pairs; the partition that they make. -/
def prL (l : List Ev) : List (Int × Int) := (l.filter fun e => decide (e.k = 3)).map fun e => (e.x, e.y)
def partAt (n : Nat) (l : List Ev) (i : Nat) : List Nat := ofL n (prL (l.take i))
theorem prL_snoc (l : List Ev) (e : Ev) : prL (l ++ [e]) = prL l ++ if e.k = 3 then [(e.x, e.y)] else [] := by
  unfold prL
  rw [List.filter_append, List.map_append]
  by_cases h : e.k = 3 <;> simp [h]
theorem partAt_zero (n : Nat) (l : List Ev) : partAt n l 0 = List.range n := rfl
theorem take_get {α : Type} {l : List α} {i : Nat} {e : α} (h : l[i]? = some e) : l.take (i + 1) = l.take i ++ [e] := by
  rw [List.take_add_one, h]; rfl
theorem partAt_succ {n : Nat} {l : List Ev} {i : Nat} {e : Ev} (h : l[i]? = some e) : partAt n l (i + 1) = if e.k = 3 then uniL (partAt n l i) e.x e.y else partAt n l i := by
  unfold partAt
  rw [take_get h, prL_snoc]
  split
  · rw [ofL_snoc]
  · rw [List.append_nil]
theorem partAt_length (n : Nat) (l : List Ev) (i : Nat) : (partAt n l i).length = n := ofL_length _ _

/-- Two of one class behind a uniting. -/
theorem uni_iff {p : List Nat} {x y : Int} (h : inB p x y = true) {a b : Nat} (ha : a < p.length) (hb : b < p.length) :
    el (uniL p x y) a = el (uniL p x y) b ↔ el p a = el p b ∨ (el p a = el p x.toNat ∧ el p b = el p y.toNat) ∨ (el p a = el p y.toNat ∧ el p b = el p x.toNat) := by
  rw [uniL_el h ha, uniL_el h hb]
  generalize el p a = u
  generalize el p b = v
  generalize el p x.toNat = s
  generalize el p y.toNat = t
  unfold join
  by_cases h1 : u = max s t <;> by_cases h2 : v = max s t
  · rw [if_pos h1, if_pos h2]; omega
  · rw [if_pos h1, if_neg h2]; omega
  · rw [if_neg h1, if_pos h2]; omega
  · rw [if_neg h1, if_neg h2]; omega

/-- What one worker's event says of the partition ahead of it. -/
structure Says (n : Nat) (p : List Nat) (e : Ev) : Prop where
  x : 0 ≤ e.x ∧ e.x < n
  y : e.k ≠ 1 → 0 ≤ e.y ∧ e.y < n
  k : e.k = 1 ∨ e.k = 2 ∨ e.k = 3
  f : e.k = 1 → 0 ≤ e.res ∧ e.res < n ∧ el p e.x.toNat = el p e.res.toNat
  s : e.k = 2 → (e.res = 1 ∧ el p e.x.toNat = el p e.y.toNat) ∨ (e.res = 0 ∧ ¬ el p e.x.toNat = el p e.y.toNat)
  u : e.k = 3 → (e.res = 0 ∧ el p e.x.toNat = el p e.y.toNat) ∨ (e.res = 1 ∧ ¬ el p e.x.toNat = el p e.y.toNat)

section
variable {n : Nat} {pr : List Int} {U : Nat → List Nat} {g : Gm}
/-- Where no place is nothing changes. -/
theorem quiet_to (L : Lin n pr U g) : ∀ (d a : Nat), a + d ≤ g.tm → (∀ t, a ≤ t → t < a + d → ∀ e ∈ g.l, e.won → e.pl ≠ (t : Int) + 1) → ∀ x y, x < n → y < n → (Sm (U (a + d)) x y ↔ Sm (U a) x y)
  | 0, a, _, _, x, y, _, _ => Iff.rfl
  | d + 1, a, h, hq, x, y, hx, hy => by
    have ih := quiet_to L d a (by omega) (fun t h1 h2 => hq t h1 (by omega)) x y hx hy
    rcases L.quiet (a + d) (by omega) with ⟨e, he, hw, hp⟩ | q
    · exact absurd hp (hq (a + d) (by omega) (by omega) e he hw)
    · exact (q x y hx hy).trans ih

theorem one_step (L : Lin n pr U g) (O : One g) (hwk : ∀ e ∈ g.l, e.wk = 0) {i : Nat} {e : Ev} (he : g.l[i]? = some e)
    (hB : ∀ x y, x < n → y < n → (Sm (U (lastEn (g.l.take i)).toNat) x y ↔ el (partAt n g.l i) x = el (partAt n g.l i) y)) :
    Says n (partAt n g.l i) e ∧ ∀ x y, x < n → y < n → (Sm (U e.en.toNat) x y ↔ el (partAt n g.l (i + 1)) x = el (partAt n g.l (i + 1)) y) := by
  have hm := List.mem_of_getElem? he
  have E := L.evs e hm
  obtain ⟨bg, pl, en, e1, e2, e3, e4, e5, e6, e7⟩ := E.t
  have hbg := O.nx i e he
  have h0 : (lastEn (g.l.take i)).toNat = bg - 1 := by omega
  rw [h0] at hB
  have hi : i < g.l.length := (List.getElem?_eq_some_iff.1 he).1
  have hgi : g.l[i] = e := (List.getElem?_eq_some_iff.1 he).2
  -- the places within the event's own time are its own
  have own : ∀ f ∈ g.l, ∀ t : Nat, f.pl = (t : Int) → bg ≤ t → t ≤ en → f = e := by
    intro f hf t ht h1 h2
    obtain ⟨j, hj, rfl⟩ := List.getElem_of_mem hf
    obtain ⟨bg', pl', en', q1, q2, q3, q4, q5, q6, q7⟩ := (L.evs _ hf).t
    rcases Nat.lt_trichotomy j i with h | h | h
    · have := (List.pairwise_iff_getElem.1 L.pw) j i hj hi h
      rw [hgi] at this
      have h3 := this.2.2 (by rw [hwk _ hf, hwk _ hm])
      omega
    · subst h; exact hgi
    · have := (List.pairwise_iff_getElem.1 L.pw) i j hi hj h
      rw [hgi] at this
      have h3 := this.2.2 (by rw [hwk _ hf, hwk _ hm])
      omega
  have q0 : ∀ x y, x < n → y < n → (Sm (U (pl - 1)) x y ↔ el (partAt n g.l i) x = el (partAt n g.l i) y) := by
    intro x y hx hy
    have := quiet_to L (pl - bg) (bg - 1) (by omega) (fun t h1 h2 f hf _ hp => by
      have := own f hf (t + 1) (by omega) (by omega) (by omega)
      subst this
      omega) x y hx hy
    rw [show bg - 1 + (pl - bg) = pl - 1 by omega] at this
    exact this.trans (hB x y hx hy)
  have q2 : ∀ x y, x < n → y < n → (Sm (U en) x y ↔ Sm (U pl) x y) := by
    intro x y hx hy
    have := quiet_to L (en - pl) pl (by omega) (fun t h1 h2 f hf _ hp => by
      have := own f hf (t + 1) (by omega) (by omega) (by omega)
      subst this
      omega) x y hx hy
    rwa [show pl + (en - pl) = en by omega] at this
  have q1 : ¬ e.won → ∀ x y, x < n → y < n → (Sm (U pl) x y ↔ el (partAt n g.l i) x = el (partAt n g.l i) y) := by
    intro hn x y hx hy
    rcases L.quiet (pl - 1) (by omega) with ⟨f, hf, hw, hp⟩ | q
    · have := own f hf pl (by omega) (by omega) (by omega)
      subst this
      exact absurd hw hn
    · rw [show pl - 1 + 1 = pl by omega] at q
      exact (q x y hx hy).trans (q0 x y hx hy)
  have hpt : e.pl.toNat = pl := by omega
  have hen : e.en.toNat = en := by omega
  have hx := E.x
  have hy := E.y
  have hxn : e.x.toNat < n := by omega
  have R := E.r
  rw [hpt] at R
  rw [hen, partAt_succ he]
  have hlen := partAt_length n g.l i
  rcases R with ⟨hk, r1, r2, r3⟩ | ⟨hk, R⟩ | ⟨hk, R⟩
  · have hn : ¬ e.won := fun h => by have := h.1; omega
    refine ⟨⟨hx, hy, .inl hk, fun _ => ⟨r1, r2, (q1 hn _ _ hxn (by omega)).1 r3⟩, fun h => by omega, fun h => by omega⟩, fun x y h1 h2 => ?_⟩
    rw [if_neg (by omega)]
    exact (q2 x y h1 h2).trans (q1 hn x y h1 h2)
  · have hn : ¬ e.won := fun h => by have := h.1; omega
    have hyn := hy (by omega)
    have hyn' : e.y.toNat < n := by omega
    refine ⟨⟨hx, hy, .inr (.inl hk), fun h => by omega, fun _ => ?_, fun h => by omega⟩, fun x y h1 h2 => ?_⟩
    · rcases R with ⟨r, r2⟩ | ⟨r, r2⟩
      · exact .inl ⟨r, (q1 hn _ _ hxn hyn').1 r2⟩
      · exact .inr ⟨r, fun q => r2 ((q1 hn _ _ hxn hyn').2 q)⟩
    · rw [if_neg (by omega)]
      exact (q2 x y h1 h2).trans (q1 hn x y h1 h2)
  · have hyn := hy (by omega)
    have hyn' : e.y.toNat < n := by omega
    rw [if_pos hk]
    have hin : inB (partAt n g.l i) e.x e.y = true := by simp [inB, hlen]; omega
    rcases R with ⟨r, r2⟩ | ⟨r, r2, r3⟩
    · have hn : ¬ e.won := fun h => by have := h.2; omega
      have hs := (q1 hn _ _ hxn hyn').1 r2
      refine ⟨⟨hx, hy, .inr (.inr hk), fun h => by omega, fun h => by omega, fun _ => .inl ⟨r, hs⟩⟩, fun x y h1 h2 => ?_⟩
      rw [uni_one hs]
      exact (q2 x y h1 h2).trans (q1 hn x y h1 h2)
    · refine ⟨⟨hx, hy, .inr (.inr hk), fun h => by omega, fun h => by omega, fun _ => .inr ⟨r, fun q => r2 ((q0 _ _ hxn hyn').2 q)⟩⟩, fun x y h1 h2 => ?_⟩
      rw [uni_iff hin (by omega) (by omega)]
      refine (q2 x y h1 h2).trans ((r3 x y h1 h2).trans ?_)
      rw [q0 x y h1 h2, q0 _ _ h1 hxn, q0 _ _ h2 hyn', q0 _ _ h1 hyn', q0 _ _ h2 hxn]

theorem one_all (L : Lin n pr U g) (O : One g) (hwk : ∀ e ∈ g.l, e.wk = 0) (hU : U 0 = List.range n) : ∀ i, i ≤ g.l.length → ∀ x y, x < n → y < n → (Sm (U (lastEn (g.l.take i)).toNat) x y ↔ el (partAt n g.l i) x = el (partAt n g.l i) y)
  | 0, _, x, y, hx, hy => by
    have F := L.F 0 (Nat.zero_le _)
    rw [hU] at F
    have e1 : rtu (List.range n) x = x := F.rt_self hx (el_range hx)
    have e2 : rtu (List.range n) y = y := F.rt_self hy (el_range hy)
    show rtu (U 0) x = rtu (U 0) y ↔ _
    rw [hU, e1, e2, partAt_zero, el_range hx, el_range hy]
  | i + 1, hi, x, y, hx, hy => by
    have ih := one_all L O hwk hU i (by omega)
    have he : g.l[i]? = some g.l[i] := List.getElem?_eq_getElem (by omega)
    have := (one_step L O hwk he ih).2 x y hx hy
    rwa [take_get he, lastEn_snoc]
theorem one_says (L : Lin n pr U g) (O : One g) (hwk : ∀ e ∈ g.l, e.wk = 0) (hU : U 0 = List.range n) {i : Nat} {e : Ev} (he : g.l[i]? = some e) : Says n (partAt n g.l i) e :=
  (one_step L O hwk he (one_all L O hwk hU i (Nat.le_of_lt (List.getElem?_eq_some_iff.1 he).1))).1
end

end Go.Proofs.YthhcchdjeeigpaaDoor

namespace Go.Proofs.YthhcchdjeeigpaaDoor
open Go.RowKit
set_option linter.unusedVariables false
set_option linter.unusedSimpArgs false

theorem valid_made {n : Nat} {os : List (Nat × Nat × Nat)} (h : ∀ q ∈ os, okO n q) : valid n (os.map toO3) = (os.map toO3).map toOpn ∧ ∀ q ∈ os, (toOpn (toO3 q)).tr = toO3 q := by
  have hk : ∀ q ∈ os, okB (toO3 q).1 (toO3 q).2.1 (toO3 q).2.2 n := by
    intro q hq
    obtain ⟨h1, h2, h3, h4⟩ := h q hq
    refine ⟨?_, ?_, ⟨?_, ?_⟩, fun _ => ⟨?_, ?_⟩⟩ <;> simp only [toO3] <;> omega
  refine ⟨?_, fun q hq => ?_⟩
  · unfold valid
    rw [List.filter_eq_self.2]
    intro q hq
    obtain ⟨p, hp, rfl⟩ := List.mem_map.1 hq
    simpa using hk p hp
  · obtain ⟨_, h1, h2, h3⟩ := okB_opn (hk q hq)
    unfold Opn.tr
    rw [h1, h2, h3]

/-- What one worker's play tells. -/
theorem one_facts {pr xs : List Int} {n : Nat} {os : List (Nat × Nat × Nat)} {T : Nat} (hok : ∀ q ∈ os, okO n q) (h : Over pr xs n [os.map toO3] T) (hT : T ≤ 1000000) :
    (stAt pr xs n [os.map toO3] T).l.length = os.length ∧ ∀ r e, (stAt pr xs n [os.map toO3] T).l[r]? = some e → ∃ q, os[r]? = some q ∧ e.wk = 0 ∧ e.k = q.1 ∧ e.x = q.2.1 ∧ e.y = q.2.2 ∧
      Says n (partAt n (stAt pr xs n [os.map toO3] T).l r) e ∧ e.bg = lastEn ((stAt pr xs n [os.map toO3] T).l.take r) + 1 ∧ 0 ≤ e.en ∧ e.en ≤ 1000000 := by
  obtain ⟨hv, htr⟩ := valid_made hok
  obtain ⟨htm, L⟩ := run_lin (pr := pr) (picks := xs) (all_ok n [os.map toO3]) T h.1
  have O := run_one (n := n) (pr := pr) (picks := xs) (ss := [os.map toO3].map (valid n)) rfl T
  have D := run_ordd (n := n) (pr := pr) (picks := xs) (ss := [os.map toO3].map (valid n)) T
  have hwk : ∀ e ∈ (stAt pr xs n [os.map toO3] T).l, e.wk = 0 := by
    intro e he
    obtain ⟨w, hw, h1⟩ := D.who e he
    have : w = 0 := by simp at hw; omega
    rw [h1, this]; rfl
  have hev := over_evs (n := n) (pr := pr) (picks := xs) (ss := [os.map toO3].map (valid n)) (T := T) h.2 0 (valid n (os.map toO3)) rfl
  have hall : evs 0 (stAt pr xs n [os.map toO3] T).l = (stAt pr xs n [os.map toO3] T).l.map Ev.tr := by
    unfold evs
    rw [List.filter_eq_self.2 (fun e he => by simp [hwk e he])]
  have hev' : (stAt pr xs n [os.map toO3] T).l.map Ev.tr = os.map toO3 := by
    rw [← hall]
    refine hev.trans ?_
    rw [hv, List.map_map, List.map_map]
    exact List.map_congr_left fun q hq => htr q hq
  have hlen : (stAt pr xs n [os.map toO3] T).l.length = os.length := by
    have := congrArg List.length hev'
    simpa using this
  refine ⟨hlen, fun r e he => ?_⟩
  have hr := (List.getElem?_eq_some_iff.1 he).1
  obtain ⟨q, hq⟩ : ∃ q, os[r]? = some q := ⟨_, List.getElem?_eq_getElem (by omega)⟩
  have h1 : ((stAt pr xs n [os.map toO3] T).l.map Ev.tr)[r]? = (os.map toO3)[r]? := by rw [hev']
  rw [List.getElem?_map, List.getElem?_map, he, hq] at h1
  have h2 : e.tr = toO3 q := Option.some.inj h1
  obtain ⟨bg, pl, en, e1, e2, e3, e4, e5, e6, e7⟩ := (L.evs e (List.mem_of_getElem? he)).t
  have hS := one_says (U := fun t => (stAt pr xs n [os.map toO3] t).up) L O hwk rfl he
  rw [htm] at e7
  exact ⟨q, hq, hwk e (List.mem_of_getElem? he), congrArg Prod.fst h2, congrArg (fun z => z.2.1) h2, congrArg (fun z => z.2.2) h2, hS, O.nx r e he, by omega, by omega⟩

theorem lastEn_take {l : List Ev} {q : Nat} {e : Ev} (h : l[q]? = some e) : lastEn (l.take (q + 1)) = e.en := by rw [take_get h, lastEn_snoc]

/-! '!=' of two operations that are one -/
theorem Tryd.opWide1 : (match Tryd.prog.underlying 40 with | some (.array _ _) | some (.struct _) => true | _ => false) = true := by kernel_rfl
theorem Tryd.opDeep1 : Tryd.prog.keyTypeAt 3 40 = true := by kernel_rfl
theorem Tryd.opCells1 : Tryd.prog.cellsOf 40 = 3 := by kernel_rfl
theorem Tryd.intCells1 : Tryd.prog.cellsOf 3 = 1 := by kernel_rfl
theorem Tryd.opType1 : Tryd.prog.keyType 40 = true := by kernel_rfl
theorem Tryd.opGuard1 : Tryd.prog.eqGuardType Tryd.prog.depth 40 = false := by kernel_rfl
theorem Tryd.typesPos1 : ∃ m, Tryd.prog.types.size = m + 3 := ⟨Tryd.prog.types.size - 3, by have : 3 ≤ Tryd.prog.types.size := of_decide_eq_true (by kernel_rfl); omega⟩
theorem op_key1 {k x y : Int} (h1 : fits k) (h2 : fits x) (h3 : fits y) : ∃ l, keyOf Tryd.prog 40 (.agg #[.int .i64 k, .int .i64 x, .int .i64 y]) = some l := by
  obtain ⟨m, hm⟩ := Tryd.typesPos1
  unfold keyOf
  simp only [Tryd.underlying40, Tryd.opType1]
  rw [hm]
  simp [Program.keyLits, Value.formed, Tryd.underlying40, Tryd.opCells1, Tryd.intCells1, Tryd.underlying3, Value.cells, ev_fits_wf h1, ev_fits_wf h2, ev_fits_wf h3]
set_option maxRecDepth 100000 in
theorem op_guard1 (x y : Operand) (a b : Array Value) (w : World) : (eqGuard .neq 40 x y (.agg a) (.agg b)).run Tryd.prog w = .ok () w := by
  simp [eqGuard, Tryd.opGuard1, Result.andThen]
set_option maxRecDepth 100000 in
theorem op_same1 {k x y : Int} (w : World) (h1 : fits k) (h2 : fits x) (h3 : fits y) : (binOp .neq 40 (.agg #[.int .i64 k, .int .i64 x, .int .i64 y]) (.agg #[.int .i64 k, .int .i64 x, .int .i64 y])).run Tryd.prog w = .ok (.bool false) w := by
  obtain ⟨l, hl⟩ := op_key1 h1 h2 h3
  obtain ⟨b, hb, hiff⟩ := run_equal_deep (P := Tryd.prog) w (m := 3) (by omega) Tryd.opDeep1 Tryd.opWide1 hl hl
  obtain rfl := hiff.2 rfl
  simp [binOp, hb, Result.andThen]

set_option maxRecDepth 100000 in
set_option maxHeartbeats 4000000 in
theorem one_law (a1 a2 a3 : Option Addr) (l1 l2 l3 c1 c2 c3 : Nat) (x1 x2 : List Nat) (x3 : List Int) (w : World) (h1 : RowY 0 w.heap.size w a1 l1 x1) (b1 : ∀ i, i < l1 → x1.getD i 0 ≤ 255) (m1 : l1 ≤ 9223372036854775807)
    (h2 : RowY 0 w.heap.size w a2 l2 x2) (b2 : ∀ i, i < l2 → x2.getD i 0 ≤ 255) (m2 : l2 ≤ 9223372036854775807) (h3 : Row 0 w.heap.size w a3 l3 x3) (m3 : l3 ≤ c3) (hT : Tab w) :
    Calls Tryd.prog 7 #[.slice a1 l1 c1, .slice a2 l2 c2, .slice a3 l3 c3] w fun e w' => e = .returned (.bool true) ∧ Below w.heap.size w w' := by
  obtain ⟨n, hn⟩ : ∃ n : Nat, (1 : Int) + (l1 : Int) % 16 = (n : Int) := ⟨1 + l1 % 16, by omega⟩
  have hn0 : 0 < n := by omega
  have hn1 : n ≤ 16 := by omega
  have H1 := Lib.hid h1
  have B1 := Lib.hid b1
  have H2 := Lib.hid h2
  have B2 := Lib.hid b2
  have H3 := Lib.hid h3
  have HT := Lib.hid hT
  have hTl := hT.lt
  clear h1 b1 h2 b2 h3 hT
  by_cases g2 : (90 : Int) < (l2 : Int)
  · have HA := Lib.hid (awake_any5 w HT.out)
    go_enter Tryd.func7, Tryd.ntmps7
    go_wp2_with (first | (go_at_call 15; (with_reducible refine (HA.out).mono ?_); rintro e w' ⟨rfl, hb⟩))
    go_ret
    exact ⟨rfl, hb⟩
  by_cases g3 : (200 : Int) < (l3 : Int)
  · have HA := Lib.hid (awake_any5 w HT.out)
    go_enter Tryd.func7, Tryd.ntmps7
    go_wp2_with (first | (go_at_call 15; (with_reducible refine (HA.out).mono ?_); rintro e w' ⟨rfl, hb⟩))
    go_ret
    exact ⟨rfl, hb⟩
  go_enter Tryd.func7, Tryd.ntmps7
  go_wp2_with fail
  clear hn
  refine (ops_any a2 l2 c2 x2 n w H2.out B2.out (Nat.le_refl _) (by omega) hn0 (by omega)).mono ?_
  rintro e w1 ⟨v, rfl, ⟨m, os, hm, hown, hok⟩, hb1⟩
  have s1 := hb1.size
  have hml : os.length = m := by have := hown.1; rw [cellsO_length] at this; omega
  rw [cellsO_o3] at hown
  obtain ⟨ao, co, rfl, hco, hso⟩ := Sl.of_owns o3_length hown (by simpa using hml)
  have HOK := Lib.hid hok
  have HML := Lib.hid hml
  have HSO := Lib.hid hso
  have HB1 := Lib.hid hb1
  clear hown hok hml hso hb1
  go_wp2_with fail
  refine (prio_any a1 l1 c1 x1 n _ (H1.out.below HB1.out (Nat.le_refl _)) B1.out s1 m1 (by omega)).mono ?_
  rintro e w2 ⟨gp, pr, rfl, hgp, hrp, hb2⟩
  have s2 := hb2.size
  have HRP := Lib.hid hrp
  have HB2 : Hid (Below w.heap.size w w2) := HB1.out.trans (hb2.mono s1)
  have HSO2 : Hid (Sl 3 w.heap.size w1.heap.size w2 ao m ((os.map toO3).map o3)) := HSO.out.below hb2 (Nat.le_refl _)
  clear hrp hb2
  go_wp2_with fail
  have k3 : Below w2.heap.size w2 (w2.alloc (.cells #[.slice ao m co] 43)) := by go_grown
  have bx := Box.new w2 43 [.slice ao m co]
  have s3 : (w2.alloc (.cells #[.slice ao m co] 43)).heap.size = w2.heap.size + 1 := World.size_alloc _ _
  generalize w2.alloc (.cells #[.slice ao m co] 43) = w3 at *
  have hsc : Scr w3.heap.size w3 (some ⟨w2.heap.size, 0, none⟩) 1 [os.map toO3] := by
    refine ⟨rfl, .inr ⟨w2.heap.size, 0, rfl, by omega, fun i s hs => ?_⟩⟩
    have hi : i = 0 := by have := (List.getElem?_eq_some_iff.1 hs).1; simp at this; exact this
    subst hi
    simp at hs
    subst hs
    have hl : (os.map toO3).length = m := by rw [List.length_map]; exact HML.out
    rw [hl]
    exact ⟨ao, co, bx.cell 0, (HSO2.out.below k3 s2).mono (Nat.zero_le _) (by omega)⟩
  have hsN : opsN [os.map toO3] = m := by simp [opsN]; exact HML.out
  have HB3 : Hid (Below w.heap.size w w3) := HB2.out.trans (k3.mono (by omega))
  have s3' : w2.heap.size ≤ w3.heap.size := by omega
  refine (play_any (some ⟨gp, 0, none⟩) (some ⟨w2.heap.size, 0, none⟩) a3 n n 1 1 l3 c3 pr x3 [os.map toO3] w3 (HRP.out.below k3 (Nat.le_refl _)) s3' hsc (Nat.le_refl _) (H3.out.below HB3.out (Nat.le_refl _)) (by omega) m3 (by omega) (by omega) (by rw [hsN]; omega) (by omega) (HT.out.below HB3.out hTl)).mono ?_
  rintro e w4 ⟨T, gb, cu, ev, rfl, hov, hown, hup, hb4⟩
  have s4 := hb4.size
  have hTb := over_le hov.1
  have hTm : T ≤ 1000000 := by
    have h1 := opsIn_valid n [os.map toO3]
    rw [hsN] at h1
    have h2 : opsIn ([os.map toO3].map (valid n)) * (16 * n + 1) ≤ 90 * (16 * 16 + 1) := Nat.mul_le_mul (by omega) (by omega)
    omega
  obtain ⟨hlen, hfac⟩ := one_facts HOK.out hov hTm
  rw [HML.out] at hlen
  obtain ⟨L, hL⟩ : ∃ L, (stAt pr x3 n [os.map toO3] T).l = L := ⟨_, rfl⟩
  rw [hL] at hlen hfac hown
  rw [hlen] at hown
  obtain ⟨ae, ce, rfl, _, hse⟩ := Sl.of_owns ecells_length hown hlen
  have HF := Lib.hid hfac
  have HLE := Lib.hid hlen
  have HSE := Lib.hid hse
  have HSO4 : Hid (Sl 3 w.heap.size w1.heap.size w4 ao m ((os.map toO3).map o3)) := (HSO2.out.below k3 s2).below hb4 (by omega)
  have HB4 : Hid (Below w.heap.size w w4) := HB3.out.trans (hb4.mono (by omega))
  have e1 : ((m : Int) != (m : Int)) = false := by simp
  have e2 : ((n : Int) != (n : Int)) = false := by simp
  clear hsc hsN hov hown hup hb4 hTb hTm hlen hfac hL hse k3 bx s3
  go_wp2_with fail
  refine (rnew_any (n : Int) w4).mono ?_
  rw [cutN_nat (by omega)]
  rintro e w5 ⟨ap, cp, rfl, hrp, hnp, hb5⟩
  have s5 := hb5.size
  have HB5 : Hid (Below w.heap.size w w5) := HB4.out.trans (hb5.mono (by omega))
  have HSO5 : Hid (Sl 3 w.heap.size w1.heap.size w5 ao m ((os.map toO3).map o3)) := HSO4.out.below hb5 (by omega)
  have HSE5 : Hid (Sl 8 w3.heap.size w4.heap.size w5 ae m (L.map ecells)) := HSE.out.below hb5 (Nat.le_refl _)
  have HP0 : Hid (RowN 0 w5.heap.size w5 ap n (partAt n L 0)) := hrp.mono (Nat.zero_le _) (Nat.le_refl _)
  have HN0 := Lib.hid hnp
  clear hrp hnp hb5
  go_wp2_with fail
  go_loopg [12, 13] (m) (fun gn p i wr => ∃ (r : Nat) (a : Option Addr) (c : Nat), gn + r ≤ m ∧ m ≤ gn + r ∧ i = .int .i64 r ∧ p = .slice a n c ∧ Hid (RowN 0 wr.heap.size wr a n (partAt n L r)) ∧ Hid (a = none → c = 0) ∧ Hid (Below w5.heap.size w5 wr))
  case atStart => exact ⟨0, ap, cp, by omega, by omega, rfl, rfl, HP0, HN0, Lib.hid (Below.refl _ _)⟩
  case round =>
    obtain ⟨r, a, c, hr1, hr2, rfl, rfl, HP, HN, HW⟩ := hrel
    by_cases hlt : r < m
    · obtain ⟨e, he⟩ : ∃ e, L[r]? = some e := ⟨_, List.getElem?_eq_getElem (by have := HLE.out; omega)⟩
      obtain ⟨q, hq, f1, f2, f3, f4, fS, f5, f6, f7⟩ := HF.out r e he
      have hqok := HOK.out q (List.mem_of_getElem? hq)
      have sw := HW.out.size
      -- the operation's cells, the event's
      have hso := HSO5.out.below HW.out (by omega)
      have hse := HSE5.out.below HW.out (by omega)
      obtain ⟨bo, oo, hao, _, hbo, hco⟩ := hso.at (by omega)
      obtain ⟨be, oe, hae, _, hbe, hce⟩ := hse.at (by omega)
      have hq' : (os.map toO3)[r]? = some (toO3 q) := by rw [List.getElem?_map, hq]; rfl
      obtain ⟨o0, o1, o2⟩ := hco.three hq'
      obtain ⟨v0, v1, v2, v3, v4, v5, v6, v7⟩ := hce.eight he
      have hbow : bo < wr.heap.size := by omega
      have hbew : be < wr.heap.size := by omega
      obtain ⟨K, X, Y⟩ := q
      dsimp only [toO3] at o0 o1 o2 f2 f3 f4
      rw [f1] at v0
      rw [f2] at v1
      rw [f3] at v2
      rw [f4] at v3
      obtain ⟨hk1, hk2, hxn, hyn⟩ := hqok
      dsimp only at hk1 hk2 hxn hyn
      have hlen : (partAt n L r).length = n := partAt_length n L r
      obtain ⟨P, hP⟩ : ∃ P, partAt n L r = P := ⟨_, rfl⟩
      rw [hP] at HP hlen fS
      have hnext : partAt n L (r + 1) = if K = 3 then uniL P (X : Int) (Y : Int) else P := by
        rw [partAt_succ he, hP, f2, f3, f4]
        by_cases h : K = 3
        · rw [if_pos h, if_pos (by omega)]
        · rw [if_neg h, if_neg (by omega)]
      have hsB : ∀ z : Int, 0 ≤ z → z < n → sameB P (X : Int) z = decide (el P X = el P z.toNat) := fun z z0 z1 => by
        unfold sameB
        rw [hlen]
        by_cases h : el P X = el P z.toNat
        · simp [h]; omega
        · simp [h]
      obtain ⟨v, hv⟩ : ∃ v, sameB P (X : Int) (Y : Int) = v := ⟨_, rfl⟩
      have hvE : (v = true ∧ el P X = el P Y) ∨ (v = false ∧ ¬ el P X = el P Y) := by
        rw [hsB Y (by omega) (by omega)] at hv
        simp only [Int.toNat_natCast] at hv
        by_cases h : el P X = el P Y
        · exact .inl ⟨by rw [← hv]; simp [h], h⟩
        · exact .inr ⟨by rw [← hv]; simp [h], h⟩
      have R1 := fS.f
      have R2 := fS.s
      have R3 := fS.u
      rw [f2, f3] at R1
      rw [f2, f3, f4] at R2 R3
      simp only [Int.toNat_natCast] at R1 R2 R3
      obtain ⟨RS, hRS⟩ : ∃ z, e.res = z := ⟨_, rfl⟩
      rw [hRS] at R1 R2 R3 v4
      have hway : (K = 1 ∧ sameB P (X : Int) RS = true) ∨ (K = 2 ∧ ((v = true ∧ RS = 1) ∨ (v = false ∧ RS = 0))) ∨ (K = 3 ∧ ((v = true ∧ RS = 0) ∨ (v = false ∧ RS = 1))) := by
        have hk : K = 1 ∨ K = 2 ∨ K = 3 := by omega
        rcases hk with h | h | h
        · obtain ⟨r1, r2, r3⟩ := R1 (by omega)
          exact .inl ⟨h, by rw [hsB RS r1 r2]; simpa using r3⟩
        · refine .inr (.inl ⟨h, ?_⟩)
          rcases R2 (by omega) with ⟨a1, a2⟩ | ⟨a1, a2⟩
          · rcases hvE with ⟨w1, w2⟩ | ⟨w1, w2⟩
            · exact .inl ⟨w1, a1⟩
            · exact absurd a2 w2
          · rcases hvE with ⟨w1, w2⟩ | ⟨w1, w2⟩
            · exact absurd w2 a2
            · exact .inr ⟨w1, a1⟩
        · refine .inr (.inr ⟨h, ?_⟩)
          rcases R3 (by omega) with ⟨a1, a2⟩ | ⟨a1, a2⟩
          · rcases hvE with ⟨w1, w2⟩ | ⟨w1, w2⟩
            · exact .inl ⟨w1, a1⟩
            · exact absurd a2 w2
          · rcases hvE with ⟨w1, w2⟩ | ⟨w1, w2⟩
            · exact absurd w2 a2
            · exact .inr ⟨w1, a1⟩
      -- the event ahead
      have hahead : r = 0 ∨ ∃ j E, j + 1 = r ∧ wr.cell? ⟨be, oe + j * 8 + 7, none⟩ = some (.int .i64 E) ∧ e.bg = E + 1 ∧ 0 ≤ E ∧ E ≤ 1000000 := by
        by_cases h0 : r = 0
        · exact .inl h0
        · obtain ⟨j, hj⟩ : ∃ j, j + 1 = r := ⟨r - 1, by omega⟩
          obtain ⟨d, hd⟩ : ∃ d, L[j]? = some d := ⟨_, List.getElem?_eq_getElem (by have := HLE.out; omega)⟩
          obtain ⟨_, _, _, _, _, _, _, _, g6, g7⟩ := HF.out j d hd
          obtain ⟨_, _, _, _, _, _, _, u7⟩ := hce.eight hd
          refine .inr ⟨j, d.en, hj, u7, ?_, g6, g7⟩
          rw [f5, ← hj, lastEn_take hd]
      have HWAY := Lib.hid hway
      have HAH := Lib.hid hahead
      have HNX := Lib.hid hnext
      have HSM : Hid (∀ (Z : Int) (u : Bool), sameB P (X : Int) Z = u → ∀ q, Calls Tryd.prog 24 #[.slice a n c, .int .i64 (X : Int), .int .i64 Z] (wr.drewN q) fun e w' => e = .returned (.bool u) ∧ ∃ m, w' = (wr.drewN q).drewN m) := fun Z u hu q => by
        have := rsame_any a n c P (X : Int) Z (wr.drewN q) (HP.out.agree (fun _ _ _ => rfl)) (by omega)
        rwa [hu] at this
      have HSM2 : Hid (∀ (Z : Int) (u : Bool), sameB P (X : Int) Z = u → ∀ k q, Calls Tryd.prog 24 #[.slice a n c, .int .i64 (X : Int), .int .i64 Z] (wr.drewN (k + q)) fun e w' => e = .returned (.bool u) ∧ ∃ m, w' = wr.drewN (k + m)) := fun Z u hu k q => by
        refine (rsame_any a n c P (X : Int) Z (wr.drewN (k + q)) (HP.out.agree (fun _ _ _ => rfl)) (by omega)).mono ?_
        rintro e w' ⟨rfl, m, rfl⟩
        exact ⟨by rw [hu], q + m, by rw [World.drewN_drewN, Nat.add_assoc]⟩
      have HUN : Hid (∀ w', Below wr.heap.size wr w' → Calls Tryd.prog 25 #[.slice a n c, .int .i64 (X : Int), .int .i64 (Y : Int)] w' fun e w'' => ∃ a' c', e = .returned (.slice a' n c') ∧ RowN 0 w''.heap.size w'' a' n (uniL P (X : Int) (Y : Int)) ∧ (a' = none → c' = 0) ∧ Below wr.heap.size wr w'') := fun w' h => by
        refine (runite_any a n c P (X : Int) (Y : Int) w' (HP.out.below h (Nat.le_refl _)) h.size (by omega) HN.out).mono ?_
        rintro e w'' ⟨a', c', h1, h2, h3, h4⟩
        exact ⟨a', c', h1, h2.mono (Nat.zero_le _) (Nat.le_refl _), h3, h.trans (h4.mono h.size)⟩
      have HKK0 : Hid (∀ w', Below wr.heap.size wr w' → (Below wr.heap.size wr w' ∧ w'.cell? ⟨bo, oo + r * 3 + 1, none⟩ = some (.int .i64 (X : Int)) ∧ w'.cell? ⟨bo, oo + r * 3 + 2, none⟩ = some (.int .i64 (Y : Int)))) := fun w' h => ⟨h, (h.cell (p := ⟨bo, oo + r * 3 + 1, none⟩) hbow).trans o1, (h.cell (p := ⟨bo, oo + r * 3 + 2, none⟩) hbow).trans o2⟩
      have HOS := Lib.hid (fun W : World => op_same1 (k := (K : Int)) (x := (X : Int)) (y := (Y : Int)) W (by unfold fits; omega) (by unfold fits; omega) (by unfold fits; omega))
      have HVV := Lib.hid hv
      have hr0 : (0 : Int) ≤ (r : Int) := by omega
      have hr1' : (r : Int) < (m : Int) := by omega
      subst hao hae
      clear hq he f1 f2 f3 f4 fS f5 f6 f7 hso hse hco hce hq' hlen hP hnext hsB hvE R1 R2 R3 hRS hway hahead hv v6 hbo hbe
      have T1 : ∀ W, Sem.run Tryd.prog (Instr.indexAt 26 (.slice (some ⟨be, oe, none⟩) m ce) (.int .i64 (r : Int))) W = .ok (.pointer (some ⟨be, oe + r * 8, none⟩)) W := fun W => by go_simp
      have T2 : ∀ W, Sem.run Tryd.prog (Instr.indexAt 43 (.slice (some ⟨bo, oo, none⟩) m co) (.int .i64 (r : Int))) W = .ok (.pointer (some ⟨bo, oo + r * 3, none⟩)) W := fun W => by go_simp
      rcases HAH.out with h0 | ⟨j, E, hj, u7, hbg, g6, g7⟩
      · have gz1 : decide (0 < r) = false := by simp; omega
        have gz2 : decide ((0 : Int) < (r : Int)) = false := by simp; omega
        have H00 := Lib.hid h0
        clear h0
        have HO1 := HOS.out
        rcases HWAY.out with ⟨hK, hR⟩ | ⟨hK, hR⟩ | ⟨hK, hR⟩
        · have k1 : ((K : Int) == 1) = true := by simp; omega
          have k2 : ((K : Int) == 2) = false := by simp; omega
          have HKK := Lib.hid hK
          have HRR := Lib.hid hR
          clear hK hR
          cases v
          all_goals
            have Q1 := Lib.hid (HSM.out (Y : Int) _ HVV.out)
            have Q2 := Lib.hid (HSM2.out RS true HRR.out)
            go_wp2_with fail
            go_quiet ((go_at_call 24; refine Calls.quiet_of (Q1.out _)))
            go_wp2_with fail
            go_quiet ((go_at_call 24; (with_reducible refine Q2.out _ _)))
            go_wp2_with fail
            go_quiet (fail)
            go_wp2_with fail
            go_roundg (m - (r + 1))
            case measure => omega
            case rel => exact ⟨r + 1, a, c, by omega, by omega, by go_num, rfl, by rw [HNX.out, if_neg (by have := HKK.out; omega)]; exact HP.out.agree (fun _ _ _ => rfl), HN.out, below_drewN' HW.out _⟩
        · have k1 : ((K : Int) == 1) = false := by simp; omega
          have k2 : ((K : Int) == 2) = true := by simp; omega
          have HKK := Lib.hid hK
          clear hK
          rcases hR with ⟨rfl, rfl⟩ | ⟨rfl, rfl⟩
          all_goals
            have Q1 := Lib.hid (HSM.out (Y : Int) _ HVV.out)
            go_wp2_with fail
            go_quiet ((go_at_call 24; refine Calls.quiet_of (Q1.out _)))
            go_wp2_with fail
            go_quiet (fail)
            go_wp2_with fail
            go_roundg (m - (r + 1))
            case measure => omega
            case rel => exact ⟨r + 1, a, c, by omega, by omega, by go_num, rfl, by rw [HNX.out, if_neg (by have := HKK.out; omega)]; exact HP.out.agree (fun _ _ _ => rfl), HN.out, below_drewN' HW.out _⟩
        · have k1 : ((K : Int) == 1) = false := by simp; omega
          have k2 : ((K : Int) == 2) = false := by simp; omega
          have HKK := Lib.hid hK
          clear hK
          rcases hR with ⟨rfl, rfl⟩ | ⟨rfl, rfl⟩
          all_goals
            have Q1 := Lib.hid (HSM.out (Y : Int) _ HVV.out)
            go_wp2_with fail
            go_quiet ((go_at_call 24; refine Calls.quiet_of (Q1.out _)))
            go_wp2_with fail
            go_region_held3 (fun w' => Below wr.heap.size wr w' ∧ w'.cell? ⟨bo, oo + r * 3 + 1, none⟩ = some (.int .i64 (X : Int)) ∧ w'.cell? ⟨bo, oo + r * 3 + 2, none⟩ = some (.int .i64 (Y : Int)))
              (first
                | exact HKK0.out _ (below_drewN' (Below.refl _ _) _).drew
                | exact HKK0.out _ hbz)
              ((go_at_call 25; (with_reducible refine (HUN.out _ ?_).mono ?_); exact And.left (by assumption); rintro e wz ⟨a7, c7, rfl, hr7, hn7, hbz⟩))
            have HZ := Lib.hid hbz
            have w0 := (hbz.cell (p := ⟨be, oe + r * 8, none⟩) hbew).trans v0
            have w1 := (hbz.cell (p := ⟨be, oe + r * 8 + 1, none⟩) hbew).trans v1
            have w2 := (hbz.cell (p := ⟨be, oe + r * 8 + 2, none⟩) hbew).trans v2
            have w3 := (hbz.cell (p := ⟨be, oe + r * 8 + 3, none⟩) hbew).trans v3
            have w5 := (hbz.cell (p := ⟨be, oe + r * 8 + 5, none⟩) hbew).trans v5
            have x0 := (hbz.cell (p := ⟨bo, oo + r * 3, none⟩) hbow).trans o0
            have x1 := (hbz.cell (p := ⟨bo, oo + r * 3 + 1, none⟩) hbow).trans o1
            have x2 := (hbz.cell (p := ⟨bo, oo + r * 3 + 2, none⟩) hbow).trans o2
            have hbew7 : be < wz.heap.size := Nat.lt_of_lt_of_le hbew hbz.size
            have hbow7 : bo < wz.heap.size := Nat.lt_of_lt_of_le hbow hbz.size
            have HR7 := Lib.hid hr7
            have HN7 := Lib.hid hn7
            clear hr7 hn7 hbz
            go_wp2_with fail
            go_quiet (fail)
            go_wp2_with fail
            go_roundg (m - (r + 1))
            case measure => omega
            case rel => exact ⟨r + 1, a7, c7, by omega, by omega, by go_num, rfl, by rw [HNX.out, if_pos HKK.out]; exact HR7.out.agree (fun _ _ _ => rfl), HN7.out, below_drewN' (HW.out.trans (HZ.out.mono sw)) _⟩
      · have gz1 : decide (0 < r) = true := by simp; omega
        have gz2 : decide ((0 : Int) < (r : Int)) = true := by simp; omega
        rw [hbg] at v5
        have wr1 : IntKind.i64.wrap ((r : Int) - 1) = (r : Int) - 1 := IntWalk.i64_in _ (by omega)
        have wr2 : IntKind.i64.wrap (E + 1) = E + 1 := IntWalk.i64_in _ (by omega)
        have T3 : ∀ W, Sem.run Tryd.prog (Instr.indexAt 26 (.slice (some ⟨be, oe, none⟩) m ce) (.int .i64 ((r : Int) - 1))) W = .ok (.pointer (some ⟨be, oe + j * 8, none⟩)) W := fun W => by
          have hj1 : (r : Int) - 1 = (j : Int) := by omega
          have hj0 : (0 : Int) ≤ (j : Int) := by omega
          have hj2 : (j : Int) < (m : Int) := by omega
          rw [hj1]
          clear hj1 wr1 wr2 gz1 gz2 T1 T2 hbg hj
          go_simp
        have HJ := Lib.hid hj
        clear hj hbg
        have HO1 := HOS.out
        rcases HWAY.out with ⟨hK, hR⟩ | ⟨hK, hR⟩ | ⟨hK, hR⟩
        · have k1 : ((K : Int) == 1) = true := by simp; omega
          have k2 : ((K : Int) == 2) = false := by simp; omega
          have HKK := Lib.hid hK
          have HRR := Lib.hid hR
          clear hK hR
          cases v
          all_goals
            have Q1 := Lib.hid (HSM.out (Y : Int) _ HVV.out)
            have Q2 := Lib.hid (HSM2.out RS true HRR.out)
            go_wp2_with fail
            go_quiet ((go_at_call 24; refine Calls.quiet_of (Q1.out _)))
            go_wp2_with fail
            go_quiet ((go_at_call 24; (with_reducible refine Q2.out _ _)))
            go_wp2_with fail
            go_quiet (fail)
            go_wp2_with fail
            go_roundg (m - (r + 1))
            case measure => omega
            case rel => exact ⟨r + 1, a, c, by omega, by omega, by go_num, rfl, by rw [HNX.out, if_neg (by have := HKK.out; omega)]; exact HP.out.agree (fun _ _ _ => rfl), HN.out, below_drewN' HW.out _⟩
        · have k1 : ((K : Int) == 1) = false := by simp; omega
          have k2 : ((K : Int) == 2) = true := by simp; omega
          have HKK := Lib.hid hK
          clear hK
          rcases hR with ⟨rfl, rfl⟩ | ⟨rfl, rfl⟩
          all_goals
            have Q1 := Lib.hid (HSM.out (Y : Int) _ HVV.out)
            go_wp2_with fail
            go_quiet ((go_at_call 24; refine Calls.quiet_of (Q1.out _)))
            go_wp2_with fail
            go_quiet (fail)
            go_wp2_with fail
            go_roundg (m - (r + 1))
            case measure => omega
            case rel => exact ⟨r + 1, a, c, by omega, by omega, by go_num, rfl, by rw [HNX.out, if_neg (by have := HKK.out; omega)]; exact HP.out.agree (fun _ _ _ => rfl), HN.out, below_drewN' HW.out _⟩
        · have k1 : ((K : Int) == 1) = false := by simp; omega
          have k2 : ((K : Int) == 2) = false := by simp; omega
          have HKK := Lib.hid hK
          clear hK
          rcases hR with ⟨rfl, rfl⟩ | ⟨rfl, rfl⟩
          all_goals
            have Q1 := Lib.hid (HSM.out (Y : Int) _ HVV.out)
            go_wp2_with fail
            go_quiet ((go_at_call 24; refine Calls.quiet_of (Q1.out _)))
            go_wp2_with fail
            go_region_held3 (fun w' => Below wr.heap.size wr w' ∧ w'.cell? ⟨bo, oo + r * 3 + 1, none⟩ = some (.int .i64 (X : Int)) ∧ w'.cell? ⟨bo, oo + r * 3 + 2, none⟩ = some (.int .i64 (Y : Int)))
              (first
                | exact HKK0.out _ (below_drewN' (Below.refl _ _) _).drew
                | exact HKK0.out _ hbz)
              ((go_at_call 25; (with_reducible refine (HUN.out _ ?_).mono ?_); exact And.left (by assumption); rintro e wz ⟨a7, c7, rfl, hr7, hn7, hbz⟩))
            have HZ := Lib.hid hbz
            have w0 := (hbz.cell (p := ⟨be, oe + r * 8, none⟩) hbew).trans v0
            have w1 := (hbz.cell (p := ⟨be, oe + r * 8 + 1, none⟩) hbew).trans v1
            have w2 := (hbz.cell (p := ⟨be, oe + r * 8 + 2, none⟩) hbew).trans v2
            have w3 := (hbz.cell (p := ⟨be, oe + r * 8 + 3, none⟩) hbew).trans v3
            have w5 := (hbz.cell (p := ⟨be, oe + r * 8 + 5, none⟩) hbew).trans v5
            have x0 := (hbz.cell (p := ⟨bo, oo + r * 3, none⟩) hbow).trans o0
            have x1 := (hbz.cell (p := ⟨bo, oo + r * 3 + 1, none⟩) hbow).trans o1
            have x2 := (hbz.cell (p := ⟨bo, oo + r * 3 + 2, none⟩) hbow).trans o2
            have w7 := (hbz.cell (p := ⟨be, oe + j * 8 + 7, none⟩) hbew).trans u7
            have hbew7 : be < wz.heap.size := Nat.lt_of_lt_of_le hbew hbz.size
            have hbow7 : bo < wz.heap.size := Nat.lt_of_lt_of_le hbow hbz.size
            have HR7 := Lib.hid hr7
            have HN7 := Lib.hid hn7
            clear hr7 hn7 hbz
            go_wp2_with fail
            go_quiet (fail)
            go_wp2_with fail
            go_roundg (m - (r + 1))
            case measure => omega
            case rel => exact ⟨r + 1, a7, c7, by omega, by omega, by go_num, rfl, by rw [HNX.out, if_pos HKK.out]; exact HR7.out.agree (fun _ _ _ => rfl), HN7.out, below_drewN' (HW.out.trans (HZ.out.mono sw)) _⟩
    · obtain rfl : r = m := by omega
      have HA := Lib.hid (awake_any5 wr (HT.out.below (HB5.out.trans (HW.out.mono (by have := HB5.out.size; omega))) hTl))
      have hBW : Hid (Below w.heap.size w wr) := HB5.out.trans (HW.out.mono (by have := HB5.out.size; omega))
      go_wp2_with (first | (go_at_call 15; (with_reducible refine (HA.out).mono ?_); rintro e w' ⟨rfl, hb6⟩))
      go_ret
      exact ⟨rfl, hBW.out.trans (hb6.mono hBW.out.size)⟩

end Go.Proofs.YthhcchdjeeigpaaDoor

namespace Go.Proofs.YthhcchdjeeigpaaDoor
open Go.ChangeShapes Go.WideShapes Go.ChangeAt Go.RowKit Go.Joins
open Go.ChangeMaps (open_string shut_string)
set_option linter.unusedVariables false

theorem playOne_own : ownKnob Tryd.prog.godebug = none := by kernel_rfl
theorem playOne_laidOut : laidOutB Tryd.prog = true := by kernel_rfl
theorem playOne_met (os : Os) (args : Array Value) : laidMetH Tryd.prog [("math/bits.deBruijn64tab", Rows.laid_math_bits_deBruijn64tab)] ((World.doorLaid Tryd.prog 14 os).forCall (fun _ _ => 0) ⟨#[], args, []⟩).memory :=
  laidMetH_of_parts3 (fuel := 8) (laidMet_of_run' 8 (by kernel_rfl) (by kernel_rfl)) (by kernel_rfl) (by kernel_rfl)

set_option maxRecDepth 100000 in
theorem playOne_lifted (os : Os) (started : os.Started) (H : Type) (enc : TypeId × Value → H) :
    ReturnsInHanded {} Tryd.checked os 7 .any (fun w args => (Rows.playOneSpec.pre enc Tryd.prog Tryd.f7 [] false w args ∧ laidMetH Tryd.prog [("math/bits.deBruijn64tab", Rows.laid_math_bits_deBruijn64tab)] w) ∧ sizedMet enc Tryd.prog Tryd.f7 (OpenSpec.ofChange Rows.playOneSpec) false w args)
      (Rows.playOneSpec.post enc Tryd.prog Tryd.f7 false true false false) := by
  refine returnsInHanded_of_change_and (C := Tryd.checked) (X := fun w _ => laidMetH Tryd.prog [("math/bits.deBruijn64tab", Rows.laid_math_bits_deBruijn64tab)] w) (fun _ _ _ hh h => h.of_heap hh) playOne_own started (by kernel_rfl) Tryd.func7
    (ChangeSpec.witness_shaped (enc := enc) (C := Tryd.checked) (os := os) (X := fun w _ => laidMetH Tryd.prog [("math/bits.deBruijn64tab", Rows.laid_math_bits_deBruijn64tab)] w) false (World.doorLaid Tryd.prog 14 os) #[.slice none 0 0, .slice none 0 0, .slice none 0 0] 8 rfl (World.shaped_of_RefB (by kernel_rfl) (by kernel_rfl)) (by kernel_rfl) (by kernel_rfl) (by kernel_rfl) (playOne_met os _)) ?_
  intro W base args ds gs before hval0 hW _ _ hL _
  have hval : ∀ (j : Nat) t v, Tryd.f7.params[j]? = some t → args[j]? = some v → Value.okWide Tryd.prog W .any base t v := hval0
  have hW' := hW
  obtain ⟨p, q, hA0, hV, rfl, hfz, hnd⟩ := hW
  have hA : DataW.TrodAll enc Tryd.prog W 0 (fun _ => true) true Tryd.f7.params.toList args.toList ds p := hA0
  rw [Tryd.params7] at hA hval
  obtain ⟨v0, vs0, d0, ds0, p0, q0, hargs, rfl, rfl, h0, r0⟩ := trodAll_cons hA
  obtain ⟨v1, vs1, d1, ds1, p1, q1, rfl, rfl, rfl, h1, r1⟩ := trodAll_cons r0
  obtain ⟨v2, vs2, d2, ds2, p2, q2, rfl, rfl, rfl, h2, r2⟩ := trodAll_cons r1
  obtain ⟨rfl, rfl, rfl⟩ := trodAll_nil r2
  obtain rfl : args = #[v0, v1, v2] := by cases args; simp_all
  obtain ⟨rfl, rfl⟩ := trodVars_none hV
  have tabW := tab_of_laid hL
  have k0 := h0
  have lt0 : ∀ x ∈ p0, x.block < W.heap.size := by obtain ⟨m, hm⟩ := k0; exact DataW.trod_lt m _ _ _ hm
  have k1 := h1
  have lt1 : ∀ x ∈ p1, x.block < W.heap.size := by obtain ⟨m, hm⟩ := k1; exact DataW.trod_lt m _ _ _ hm
  have k2 := h2
  have lt2 : ∀ x ∈ p2, x.block < W.heap.size := by obtain ⟨m, hm⟩ := k2; exact DataW.trod_lt m _ _ _ hm
  obtain ⟨a_p, l_p, c_p, rfl⟩ := okWide_slice Tryd.underlying35 (hval 0 35 v0 rfl rfl)
  obtain ⟨x_p, row_p⟩ := (by obtain ⟨fuel, hf⟩ := h0; exact RowY_of_trod Tryd.underlying35 Tryd.underlying5 (by kernel_rfl) hf rfl : ∃ xs, RowY 0 W.heap.size W a_p l_p xs ∧ ∀ i, i < l_p → xs.getD i 0 ≤ 255)
  have len_p : l_p ≤ 9223372036854775807 := by obtain ⟨fuel, hf⟩ := h0; exact leny_of_trod Tryd.underlying35 Tryd.underlying5 (by kernel_rfl) hf rfl
  obtain ⟨a_s, l_s, c_s, rfl⟩ := okWide_slice Tryd.underlying35 (hval 1 35 v1 rfl rfl)
  obtain ⟨x_s, row_s⟩ := (by obtain ⟨fuel, hf⟩ := h1; exact RowY_of_trod Tryd.underlying35 Tryd.underlying5 (by kernel_rfl) hf rfl : ∃ xs, RowY 0 W.heap.size W a_s l_s xs ∧ ∀ i, i < l_s → xs.getD i 0 ≤ 255)
  have len_s : l_s ≤ 9223372036854775807 := by obtain ⟨fuel, hf⟩ := h1; exact leny_of_trod Tryd.underlying35 Tryd.underlying5 (by kernel_rfl) hf rfl
  obtain ⟨a_c, l_c, c_c, rfl⟩ := okWide_slice Tryd.underlying22 (hval 2 22 v2 rfl rfl)
  obtain ⟨x_c, row_c⟩ : ∃ xs, Row 0 W.heap.size W a_c l_c xs := by obtain ⟨fuel, hf⟩ := h2; exact Row_of_trod Tryd.underlying22 Tryd.underlying3 (by kernel_rfl) hf rfl
  have cap_c : l_c ≤ c_c := by obtain ⟨fuel, hf⟩ := h2; exact cap_of_trod Tryd.underlying22 Tryd.underlying3 (by kernel_rfl) hf rfl
  clear hA0 hval0
  refine (one_law a_p a_s a_c l_p l_s l_c c_p c_s c_c x_p x_s x_c W row_p.1 row_p.2 len_p row_s.1 row_s.2 len_s row_c cap_c tabW).mono fun e W' ⟨he, bel⟩ => ?_
  subst he
  exact ⟨_, rfl, _, _, _, [], _, [], hW', trodAll_mk1 (shut_bool Tryd.underlying4 _), (trodAll_cons_mk (Below.trod playOne_laidOut (by kernel_rfl) (of_decide_eq_true (by kernel_rfl)) k0 bel lt0) (trodAll_cons_mk (Below.trod playOne_laidOut (by kernel_rfl) (of_decide_eq_true (by kernel_rfl)) k1 bel lt1) (trodAll_cons_mk (Below.trod playOne_laidOut (by kernel_rfl) (of_decide_eq_true (by kernel_rfl)) k2 bel lt2) trodAll_mk0))), rfl, bel.frame _, fun h => by cases h⟩

theorem playOne_holds : Rows.PlayOneSaid :=
  OpenClaim.holds_of_wide 7 Tryd.f7 rfl rfl rfl rfl rfl rfl rfl ⟨rfl, rfl, rfl, rfl, rfl⟩ rfl rfl rfl rfl rfl (by kernel_rfl) Tryd.func7 (by kernel_rfl)
    (of_decide_eq_true (by kernel_rfl)) (by unfold Func.isWrapper; first | (rw [if_pos (by decide +kernel)]; kernel_rfl) | (rw [if_neg (by decide +kernel)]; exact ⟨rfl, rfl⟩))
    (fun os started H enc _ => playOne_lifted os started H enc)

theorem playOne_card : Rows.PlayOneCardSaid :=
  Claim7.holds_tied_plain_at .later [] [.data] true _ _
    playOne_holds (fun _ h => by cases h) (by kernel_rfl) (fun _ h => by cases h) playOne_row_tie rfl ⟨rfl, rfl⟩ (by kernel_rfl) rfl
    (fun f fn hf hfn => by
      obtain rfl : f = 7 := Option.some.inj ((show Tryd.prog.funcNamed "warp/warplaw5.PlayOne" = some 7 by kernel_rfl).symm.trans hf) |>.symm
      obtain rfl : fn = Tryd.f7 := (Option.some.inj (Tryd.func7.symm.trans hfn)).symm
      exact ⟨by kernel_rfl, fun j t ht => by
        rw [Tryd.params7] at ht
        have hm : t ∈ [35, 35, 22] := by simpa using Array.mem_of_getElem? ht
        have hall : ([35, 35, 22].all fun u => !Tryd.prog.wantsStandIn u) = true := by kernel_rfl
        exact (show Tryd.prog.wantsStandIn t = false by simpa using List.all_eq_true.1 hall t hm)⟩)
    (by kernel_rfl)
#print axioms playOne_card

end Go.Proofs.YthhcchdjeeigpaaDoor
