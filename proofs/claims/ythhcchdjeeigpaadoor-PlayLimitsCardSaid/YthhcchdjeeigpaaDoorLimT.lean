/- PROVED: the law PlayLimits (so many cells, lists and operations at most: past that nothing is played, and up to that it is) returns true at every input. The table of math/bits is as the program's text lays it (tied). -/
import Derived.Test.YthhcchdjeeigpaaDoorRows
import Derived.Test.YthhcchdjeeigpaaDoorPl
import Derived.Test.YthhcchdjeeigpaaDoorBits
import Derived.Lib.LaidTab
import Derived.LaidMore
import Derived.Stop.Joined
import Derived.Deep.DeepCutAuto
import Derived.Test.YthhcchdjeeigpaaDoorCards
import Derived.Test.YthhcchdjeeigpaaDoorTie
import Derived.ProofKit
import Derived.OpenShut
import Derived.ShutString
import Derived.ChangeOld
import Derived.Lib.SmallJoins
import Derived.SevenTiedAt
namespace Go.Proofs.YthhcchdjeeigpaaDoor
open Go.RowKit

theorem tab_global : Tryd.prog.globalNamed "math/bits.deBruijn64tab" = some 0 := by kernel_rfl
theorem tab_type : (Tryd.prog.globals[0]?).map (·.type) = some 173 := by kernel_rfl

theorem tab_of_laid {W : World} (h : laidMetH Tryd.prog [("math/bits.deBruijn64tab", Rows.laid_math_bits_deBruijn64tab)] W) : Tab W := by
  rw [MakeChecks.laidMetH_plain _ _ _ (by kernel_rfl)] at h
  have h' : laidMet Tryd.prog [("math/bits.deBruijn64tab", Lib.tabData .u8 (Lib.deBruijn64tab.map fun n : Nat => (n : Int)))] W := h
  have ht := Lib.tabIs_of_head tab_global tab_type Tryd.underlying173 Tryd.underlying5 (by kernel_rfl) (by kernel_rfl) h'
  intro j hj
  rw [ht.cell tab_global j (by simpa using hj)]
  simp [List.getD, hj]

end Go.Proofs.YthhcchdjeeigpaaDoor

namespace Go.Proofs.YthhcchdjeeigpaaDoor
open Go.RowKit
set_option linter.unusedVariables false
set_option linter.unusedSimpArgs false

theorem made_all {n : Nat} {s : List O3} (h : ∀ q ∈ s, okB q.1 q.2.1 q.2.2 n) : (valid n s).length = s.length := by
  unfold valid
  rw [List.length_map, List.filter_eq_self.2 fun q hq => decide_eq_true (h q hq)]
theorem made_ops {n : Nat} : ∀ {ss : List (List O3)}, Made n ss → opsIn (ss.map (valid n)) = opsN ss
  | [], _ => rfl
  | s :: ss, h => by
    have ih := made_ops (ss := ss) fun q hq => h q (by simp [hq])
    have h1 := made_all fun q hq => ((h s (by simp)).2 q hq).1
    unfold opsIn opsN at *
    simp only [List.map_cons, List.sum_cons, ih, h1]
theorem made_opsN {n : Nat} : ∀ {ss : List (List O3)}, Made n ss → opsN ss ≤ 24 * ss.length
  | [], _ => Nat.le_refl _
  | s :: ss, h => by
    have ih := made_opsN (ss := ss) fun q hq => h q (by simp [hq])
    have h1 := (h s (by simp)).1
    unfold opsN at *
    simp only [List.map_cons, List.sum_cons, List.length_cons]; omega
theorem idle_pend {g : Gm} (h : on 0 g.en = []) : ∀ k ∈ g.ws, k.left = [] ∧ k.on = false := by
  intro k hk
  obtain ⟨i, hi, rfl⟩ := List.getElem_of_mem hk
  have h1 : ¬ g.en.getD i false = true := fun e => by
    have := mem_on g.en 0 i e
    rw [h] at this; cases this
  have h2 : g.en.getD i false = (g.ws[i]).en := by
    unfold Gm.en
    simp [List.getD, hi]
  rw [h2] at h1
  unfold Wk.en at h1
  simp at h1
  exact ⟨h1.2, h1.1⟩
theorem sum_zero {α : Type} {f : α → Nat} : ∀ {l : List α}, (∀ a ∈ l, f a = 0) → (l.map f).sum = 0
  | [], _ => rfl
  | a :: l, h => by
    have := sum_zero (l := l) fun b hb => h b (by simp [hb])
    simp [this, h a (by simp)]
/-- All operations have ended. -/
theorem over_all {pr xs : List Int} {n : Nat} {ss : List (List O3)} {T : Nat} (h : Over pr xs n ss T) : (stAt pr xs n ss T).l.length = opsIn (ss.map (valid n)) := by
  have h1 := run_cnt (pr := pr) (picks := xs) (all_ok n ss) T
  have h2 : ((stAt pr xs n ss T).ws.map Wk.pend).sum = 0 := sum_zero fun k hk => by
    obtain ⟨e1, e2⟩ := idle_pend h.2 k hk
    unfold Wk.pend; rw [e1, e2]; rfl
  show (run pr xs (gm0 n (ss.map (valid n))) T).l.length = _
  have h3 : ((run pr xs (gm0 n (ss.map (valid n))) T).ws.map Wk.pend).sum = 0 := h2
  omega
theorem ends_bound {a n T : Nat} (h : T ≤ a * (16 * n + 1)) : T ≤ 100 * (a + 1) * (n + 1) := by
  refine Nat.le_trans h ?_
  have e : 100 * (a + 1) * (n + 1) = 100 * a * n + 100 * a + 100 * n + 100 := by rw [Nat.mul_add, Nat.mul_add, Nat.add_mul]; omega
  have e2 : a * (16 * n + 1) = 16 * (a * n) + a := by rw [Nat.mul_add, Nat.mul_left_comm]; omega
  rw [e, e2, Nat.mul_assoc]
  generalize a * n = z
  omega

set_option maxRecDepth 100000 in
set_option maxHeartbeats 4000000 in
theorem ends_law (a1 a2 a3 : Option Addr) (l1 l2 l3 c1 c2 c3 : Nat) (x1 : List Nat) (x3 : List Int) (w : World) (h1 : RowY 0 w.heap.size w a1 l1 x1) (b1 : ∀ i, i < l1 → x1.getD i 0 ≤ 255) (m1 : l1 ≤ 9223372036854775807) (h2 : GridY w a2 l2)
    (h3 : Row 0 w.heap.size w a3 l3 x3) (m3 : l3 ≤ c3) (hT : Tab w) :
    Calls Tryd.prog 5 #[.slice a1 l1 c1, .slice a2 l2 c2, .slice a3 l3 c3] w fun e w' => e = .returned (.bool true) ∧ Below w.heap.size w w' := by
  obtain ⟨n, hn⟩ : ∃ n : Nat, (1 : Int) + (l1 : Int) % 16 = (n : Int) := ⟨1 + l1 % 16, by omega⟩
  have hn0 : 0 < n := by omega
  have hn1 : n ≤ 16 := by omega
  have H1 := Lib.hid h1
  have B1 := Lib.hid b1
  have H2 := Lib.hid h2
  have H3 := Lib.hid h3
  have HT := Lib.hid hT
  have hTl := hT.lt
  clear h1 b1 h2 h3 hT
  by_cases g3 : (500 : Int) < (l3 : Int)
  · have HA := Lib.hid (awake_any5 w HT.out)
    go_enter Tryd.func5, Tryd.ntmps5
    go_wp2_with (first | (go_at_call 15; (with_reducible refine (HA.out).mono ?_); rintro e w' ⟨rfl, hb⟩))
    go_ret
    exact ⟨rfl, hb⟩
  · go_enter Tryd.func5, Tryd.ntmps5
    go_wp2_with fail
    clear hn
    refine (scripts_any a2 l2 c2 n w H2.out hn0 (by omega)).mono ?_
    rintro e w2 ⟨a', c', ss, rfl, hs8, hmade, hscr, hb2⟩
    have s2 := hb2.size
    obtain ⟨W, hW⟩ : ∃ W, ss.length = W := ⟨_, rfl⟩
    rw [hW] at hs8 hscr ⊢
    have HSC := Lib.hid hscr
    have HMD := Lib.hid hmade
    have HB2 := Lib.hid hb2
    have HW := Lib.hid hW
    have HON := Lib.hid (made_opsN hmade)
    clear hscr hmade hb2 hW
    go_wp2_with fail
    go_loop [9, 10] (fun s i => ∃ k : Nat, k ≤ W ∧ i = .int .i64 (k : Int) ∧ s = .int .i64 ((opsN (ss.take k) : Nat) : Int)) (fun _ i => W - (intOf i).toNat)
    case atStart => exact ⟨0, Nat.zero_le _, rfl, by simp [opsN]⟩
    case round =>
      obtain ⟨k, hk, rfl, rfl⟩ := hrel
      by_cases hlt : k < W
      · obtain ⟨b, off, rfl, hb, hc⟩ := HSC.out.2.resolve_left (by omega)
        obtain ⟨s, hsk⟩ : ∃ s, ss[k]? = some s := ⟨_, List.getElem?_eq_getElem (by have := HW.out; omega)⟩
        obtain ⟨a4, c4, h4, _⟩ := hc k s hsk
        have e1 := opsN_take ss k s hsk
        have e2 := opsN_le ss (k + 1)
        have e3 := HON.out
        have e5 := HW.out
        obtain ⟨q, hq⟩ : ∃ q, opsN (ss.take (k + 1)) = q := ⟨_, rfl⟩
        obtain ⟨p, hp⟩ : ∃ p, opsN (ss.take k) = p := ⟨_, rfl⟩
        obtain ⟨m, hm'⟩ : ∃ m, s.length = m := ⟨_, rfl⟩
        have HQ := Lib.hid hq
        rw [hm'] at h4
        rw [hq, hp, hm'] at e1
        rw [hq] at e2
        rw [hp]
        have e6 : q ≤ 192 := by omega
        have E1 := Lib.hid e1
        have hpm : (p : Int) + (m : Int) ≤ 192 := by omega
        clear hc hsk hq hp hm' e1 e2 e3 e5
        go_wp2_with fail
        go_round
        case rel => exact ⟨k + 1, by omega, by go_num, by rw [HQ.out, E1.out]; congr 1⟩
        case measure => simp [intOf]; omega
      · obtain rfl : k = W := by omega
        have e : ss.take k = ss := List.take_of_length_le (by rw [HW.out]; exact Nat.le_refl _)
        rw [e]
        have hall := made_ops HMD.out
        have hon := HON.out
        rw [HW.out] at hon
        obtain ⟨al, hal⟩ : ∃ al, opsN ss = al := ⟨_, rfl⟩
        rw [hal] at hall hon ⊢
        have HALL := Lib.hid hall
        have HAL := Lib.hid hal
        have hal192 : al ≤ 192 := by omega
        clear e hall hal hon
        go_wp2_with fail
        refine (prio_any a1 l1 c1 x1 n _ (H1.out.below HB2.out (Nat.le_refl _)) B1.out s2 m1 (by omega)).mono ?_
        rintro e w3 ⟨gp, pr, rfl, hgp, hrp, hb3⟩
        have s3 := hb3.size
        have HB3 : Hid (Below w.heap.size w w3) := HB2.out.trans (hb3.mono s2)
        have HPL := Lib.hid (play_any (some ⟨gp, 0, none⟩) a' a3 n n k c' l3 c3 pr x3 ss w3 hrp (Nat.le_refl _) (HSC.out.below hb3 (Nat.le_refl _)) s3 (H3.out.below HB3.out (Nat.le_refl _)) (Nat.le_trans s2 s3) m3 (by omega) (by omega) (by have := HAL.out; omega) (by omega) (HT.out.below HB3.out hTl))
        clear hgp hrp hb3
        go_wp2_with fail
        refine (HPL.out).mono ?_
        rintro e w4 ⟨T, gb, cu, ev, rfl, hov, hown, hup, hb4⟩
        have hlen := over_all hov
        rw [HALL.out] at hlen
        have hT1 : al ≤ T := by rw [← hlen]; exact lens_le T
        have hT2 := over_le hov.1
        rw [HALL.out] at hT2
        have hT3 := ends_bound hT2
        obtain ⟨ae, ce, rfl⟩ : ∃ ae ce, ev = .slice ae al ce := by
          rw [hlen] at hown
          obtain ⟨_, ⟨rfl, h0⟩ | ⟨g, cap, cur, rfl, _⟩⟩ := hown
          · exact ⟨none, 0, by rw [h0]⟩
          · exact ⟨_, _, rfl⟩
        have HB4 : Hid (Below w.heap.size w w4) := HB3.out.trans (hb4.mono (Nat.le_trans s2 s3))
        have HA := Lib.hid (awake_any5 w4 (HT.out.below HB4.out hTl))
        have k1 : ((al : Int) == (al : Int)) = true := by simp
        have k2 : ((n : Int) == (n : Int)) = true := by simp
        have k3 : (al : Int) ≤ (T : Int) := by omega
        obtain ⟨bd, hbd⟩ : ∃ bd : Nat, 100 * (al + 1) * (n + 1) = bd := ⟨_, rfl⟩
        rw [hbd] at hT3
        have hbd2 : bd ≤ 400000 := by
          rw [← hbd]
          exact Nat.le_trans (Nat.mul_le_mul (Nat.mul_le_mul_left 100 (show al + 1 ≤ 193 by omega)) (show n + 1 ≤ 17 by omega)) (by decide)
        have k4 : (100 : Int) * ((al : Int) + 1) * ((n : Int) + 1) = (bd : Int) := by rw [← hbd]; push_cast; rfl
        have k5 : (T : Int) ≤ (bd : Int) := by omega
        have k6 : IntKind.i64.wrap (bd : Int) = (bd : Int) := IntWalk.i64_in _ (by omega)
        clear hov hown hup hb4 hlen hT1 hT2 hT3 hbd
        go_wp2_with (first | (go_at_call 15; (with_reducible refine (HA.out).mono ?_); rintro e w' ⟨rfl, hb5⟩))
        go_ret
        exact ⟨rfl, HB4.out.trans (hb5.mono HB4.out.size)⟩

end Go.Proofs.YthhcchdjeeigpaaDoor

namespace Go.Proofs.YthhcchdjeeigpaaDoor
open Go.RowKit
set_option linter.unusedVariables false
set_option linter.unusedSimpArgs false

set_option maxRecDepth 100000 in
set_option maxHeartbeats 2000000 in
theorem play_no (a b c : Option Addr) (la ca lb cb lc cc : Nat) (ss : List (List O3)) (w : World) {ls : Nat} (hs : Scr ls w b lb ss) (hb : lb ≤ 1000000) (ho : opsN ss ≤ 1000000) (h : ¬ (la ≤ 4096 ∧ lb ≤ 64 ∧ opsN ss ≤ 4096)) :
    Calls Tryd.prog 16 #[.slice a la ca, .slice b lb cb, .slice c lc cc] w fun e w' => e = .returned (.tuple #[.slice none 0 0, .slice none 0 0, .int .i64 0]) ∧ w = w' := by
  have HM := may_play (la : Int) b lb cb ss w hs hb ho
  rw [decide_eq_false (by omega)] at HM
  have HMH := Lib.hid HM
  clear HM hs h
  go_enter Tryd.func16, Tryd.ntmps16
  go_wp2_with (first | (go_at_call 33; (with_reducible refine (HMH.out).mono ?_); rintro e w' ⟨rfl, rfl⟩))
  exact bodyPost_ret (v := .tuple #[.slice none 0 0, .slice none 0 0, .int .i64 0]) (by simp only [results, Tryd.results16]; go_simp) rfl ⟨rfl, rfl⟩

/-- Rows of zeros that were made. -/
def zs (c : Nat) : List O3 := List.replicate c (0, 0, 0)
def LimIn (H : Nat) (w : World) (svs : List Value) (cs : List Nat) : Prop :=
  svs.length = cs.length ∧ ∀ (i c : Nat), cs[i]? = some c → ∃ a, svs[i]? = some (.slice a c c) ∧ OpsRow (H + 1) w.heap.size w a c (zs c)
theorem zs_flat (c : Nat) : (zs c).flatMap o3 = List.replicate (c * 3) (Value.int .i64 0) := by
  induction c with
  | zero => rfl
  | succ c ih =>
    have e : zs (c + 1) = (0, 0, 0) :: zs c := List.replicate_succ
    rw [e, List.flatMap_cons, ih, show (c + 1) * 3 = c * 3 + 1 + 1 + 1 by omega]
    rfl
theorem zrow (w : World) (c : Nat) (t : TypeId) : OpsRow w.heap.size (w.alloc (.cells (madeCells #[Value.int .i64 0, Value.int .i64 0, Value.int .i64 0] (c * 3)) t)).heap.size (w.alloc (.cells (madeCells #[Value.int .i64 0, Value.int .i64 0, Value.int .i64 0] (c * 3)) t)) (some ⟨w.heap.size, 0, none⟩) c (zs c) := by
  have hr := RowsIn.made (k := 3) w [Value.int .i64 0, Value.int .i64 0, Value.int .i64 0] c t rfl
  refine ⟨by simp [zs], .inr ⟨w.heap.size, 0, rfl, Nat.le_refl _, by simp, fun i x hx j v hv => ?_⟩⟩
  rw [Nat.zero_add]
  refine (hr.2 i x ?_ j v hv).1
  rw [← hx]
  simp [zs, o3]
theorem LimIn.step {H k c : Nat} {w : World} {svs : List Value} {cs : List Nat} {t : TypeId} (h : LimIn H w svs cs) (hH : H < w.heap.size) :
    LimIn H ((w.alloc (.cells (madeCells #[Value.int .i64 0, Value.int .i64 0, Value.int .i64 0] (c * 3)) t)).setCell ⟨H, k, none⟩ (.slice (some ⟨w.heap.size, 0, none⟩) c c)) (svs ++ [.slice (some ⟨w.heap.size, 0, none⟩) c c]) (cs ++ [c]) := by
  refine ⟨by simp [h.1], fun i q hq => ?_⟩
  by_cases hi : i < cs.length
  · rw [List.getElem?_append_left hi] at hq
    obtain ⟨a, h1, h2⟩ := h.2 i q hq
    refine ⟨a, by rw [List.getElem?_append_left (by rw [h.1]; exact hi)]; exact h1, ?_⟩
    refine (h2.agree fun b hl hh => ?_).mono (Nat.le_refl _) (by simp)
    rw [Below.heap_setCell _ ⟨H, k, none⟩ _ b (by show b ≠ H; omega), Below.heap_alloc w _ b hh]
  · rw [List.getElem?_append_right (by omega)] at hq
    have hz : i - cs.length = 0 := by have := (List.getElem?_eq_some_iff.1 hq).1; simp at this; omega
    rw [hz] at hq
    simp at hq
    subst hq
    refine ⟨_, by rw [List.getElem?_append_right (by rw [h.1]; omega), h.1, hz]; rfl, ?_⟩
    refine ((zrow w c t).agree fun b hl hh => ?_).mono (by omega) (by simp)
    rw [Below.heap_setCell _ ⟨H, k, none⟩ _ b (by show b ≠ H; omega)]
theorem LimIn.scr {H n : Nat} {w : World} {e : TypeId} {svs : List Value} {cs : List Nat} (h : LimIn H w svs cs) (ho : w.ownsRow H e 1 (.slice (some ⟨H, 0, none⟩) n n) n svs) (hn : cs.length = n) (hH : H < w.heap.size) : Scr w.heap.size w (some ⟨H, 0, none⟩) n (cs.map zs) := by
  refine ⟨by simpa using hn, .inr ⟨H, 0, rfl, hH, fun i s hs => ?_⟩⟩
  rw [List.getElem?_map] at hs
  obtain ⟨c, hc, rfl⟩ := Option.map_eq_some_iff.1 hs
  obtain ⟨a, h1, h2⟩ := h.2 i c hc
  have hi : i < n := by have := (List.getElem?_eq_some_iff.1 hc).1; omega
  have hl : (zs c).length = c := by simp [zs]
  refine ⟨a, c, ?_, by rw [hl]; exact h2.mono (Nat.zero_le _) (Nat.le_refl _)⟩
  rw [Nat.zero_add, ho.cellAt i (by omega), h1, hl]
theorem opsN_zs (cs : List Nat) : opsN (cs.map zs) = cs.sum := by
  unfold opsN
  rw [List.map_map]
  congr 1
  induction cs with
  | nil => rfl
  | cons c cs ih => simp [ih, zs]
theorem sum_le_of (cs : List Nat) (B : Nat) (h : ∀ c ∈ cs, c ≤ B) : cs.sum ≤ cs.length * B := by
  induction cs with
  | nil => simp
  | cons c cs ih =>
    have h1 := ih fun q hq => h q (by simp [hq])
    have h2 := h c (by simp)
    simp only [List.sum_cons, List.length_cons, Nat.add_mul]; omega
theorem valid_zs (n c : Nat) : valid n (zs c) = [] := by
  unfold valid
  rw [List.filter_eq_nil_iff.2, List.map_nil]
  intro q hq
  obtain ⟨_, rfl⟩ := List.mem_replicate.1 hq
  simp [okB]
theorem on_all_false : ∀ (en : List Bool) (k : Nat), (∀ b ∈ en, b = false) → on k en = [] := by
  intro en k h
  induction en generalizing k with
  | nil => rfl
  | cons b en ih =>
    obtain rfl := h b (by simp)
    simpa [on] using ih (k + 1) fun q hq => h q (by simp [hq])
theorem lim_over (pr : List Int) (n : Nat) (cs : List Nat) : Over pr [] n (cs.map zs) 0 := by
  refine ⟨fun t ht => absurd ht (Nat.not_lt_zero _), ?_⟩
  refine on_all_false _ _ fun b hb => ?_
  unfold Gm.en at hb
  obtain ⟨k, hk, rfl⟩ := List.mem_map.1 hb
  have : k ∈ ((cs.map zs).map (valid n)).map Wk.new := hk
  simp only [List.mem_map] at this
  obtain ⟨s, ⟨q, ⟨c, _, rfl⟩, rfl⟩, rfl⟩ := this
  rw [valid_zs]
  rfl

theorem Tryd.opInfo1 : (Tryd.prog.info? 40).map (fun i => (i.zero, i.size, i.bytes)) = some (some (.agg #[.int .i64 0, .int .i64 0, .int .i64 0]), 3, 24) := by kernel_rfl
theorem Tryd.intInfo1 : (Tryd.prog.info? 3).map (fun i => (i.zero, i.size, i.bytes)) = some (some (.int .i64 0), 1, 8) := by kernel_rfl

set_option maxRecDepth 100000 in
set_option maxHeartbeats 4000000 in
theorem limits_law (n k m : Nat) (w : World) (hn : n ≤ 65535) (hk : k ≤ 65535) (hm : m ≤ 65535) (hT : Tab w) :
    Calls Tryd.prog 6 #[.int .u16 (n : Int), .int .u16 (k : Int), .int .u16 (m : Int)] w fun e w' => e = .returned (.bool true) ∧ Below w.heap.size w w' := by
  obtain ⟨i0, hi0, hz0, hz1, hz2⟩ := info_parts Tryd.opInfo1
  obtain ⟨i1, hi1, hy0, hy1, hy2⟩ := info_parts Tryd.opsInfo
  obtain ⟨i2, hi2, hx0, hx1, hx2⟩ := info_parts Tryd.intInfo1
  have HT := Lib.hid hT
  have hTl := hT.lt
  clear hT
  go_enter Tryd.func6, Tryd.ntmps6
  go_upto_region 2 with fail
  go_cut [7, 31] (fun s7 s31 wx => ∃ (n0 : Nat) (z : Bool), n0 ≤ 4999 ∧ s7 = .int .i64 (n0 : Int) ∧ s31 = .bool z ∧ wx = w)
  case first =>
    go_wp2_with fail
    all_goals go_meet
    · exact ⟨n % 5000, _, by omega, by push_cast; rfl, rfl, rfl⟩
    · exact ⟨n % 5000, _, by omega, by push_cast; rfl, rfl, rfl⟩
  case rest =>
  obtain ⟨n0, z, hn0, rfl, rfl, rfl⟩ := hcut
  go_upto_if 31 with fail
  go_cut [7] (fun s7 wx => ∃ (nn : Nat), nn ≤ 4999 ∧ s7 = .int .i64 (nn : Int) ∧ wx = wc)
  case first =>
    cases z with
    | true =>
      go_wp2_with fail
      go_meet
      exact ⟨64, by omega, rfl, rfl⟩
    | false =>
      go_wp2_with fail
      go_meet
      exact ⟨n0, hn0, rfl, rfl⟩
  case rest =>
  obtain ⟨nn, hnn, rfl, rfl⟩ := hcut
  clear hn0 z n0
  go_upto_region 4 with fail
  go_cut [8, 9, 37] (fun s8 s9 s37 wx => ∃ (k0 m0 : Nat) (z : Bool), k0 ≤ 69 ∧ m0 ≤ 5999 ∧ s8 = .int .i64 (k0 : Int) ∧ s9 = .int .i64 (m0 : Int) ∧ s37 = .bool z ∧ wx = wc)
  case first =>
    go_wp2_with fail
    all_goals go_meet
    · exact ⟨k % 70, m % 6000, _, by omega, by omega, by push_cast; rfl, by push_cast; rfl, rfl, rfl⟩
    · exact ⟨k % 70, m % 6000, _, by omega, by omega, by push_cast; rfl, by push_cast; rfl, rfl, rfl⟩
  case rest =>
  obtain ⟨kk, m0, z, hkk, hm0, rfl, rfl, rfl, rfl⟩ := hcut
  go_upto_if 37 with fail
  go_cut [9] (fun s9 wx => ∃ (mm : Nat), mm ≤ 5999 ∧ s9 = .int .i64 (mm : Int) ∧ wx = wc)
  case first =>
    cases z with
    | true =>
      go_wp2_with fail
      go_meet
      exact ⟨40, by omega, rfl, rfl⟩
    | false =>
      go_wp2_with fail
      go_meet
      exact ⟨m0, hm0, rfl, rfl⟩
  case rest =>
  obtain ⟨mm, hmm, rfl, rfl⟩ := hcut
  clear hm0 z m0 hn hk hm
  go_wp2_with (at_make; refine wpList_make_full _ rfl _ _ 23 rfl wc.heap.size 43 i1 (.slice none 0 0) 1 Tryd.underlying23 hi1 hy0 hy1 _ _ _ _ kk rfl rfl rfl rfl ?m1 ?m2 ?m3 ?_)
  case m1 => rw [hy2]; omega
  case m2 => unfold maxLen; omega
  case m3 => simp
  intro w1 hown hgr
  rw [toList_madeCells_one] at hown
  have hb1 : Below wc.heap.size wc w1 := (Below.refl _ _).grown hgr (Nat.le_refl _) (by simp)
  clear hgr
  go_wp2_with fail
  go_loopw [11, 12] (fun sv iv wr => ∃ (t : Nat) (svs : List Value) (cs : List Nat), t ≤ kk ∧ iv = .int .i64 (t : Int) ∧ sv = .int .i64 ((cs.sum : Nat) : Int) ∧ Hid (cs.length = t) ∧ Hid (∀ c ∈ cs, c ≤ 6000) ∧ Hid (wr.ownsRow wc.heap.size 43 1 (.slice (some ⟨wc.heap.size, 0, none⟩) kk kk) kk (svs ++ List.replicate (kk - t) (.slice none 0 0))) ∧ Hid (LimIn wc.heap.size wr svs cs) ∧ Below wc.heap.size wc wr) (fun _ iv _ => kk - (intOf iv).toNat)
  case atStart => exact ⟨0, [], [], Nat.zero_le _, rfl, rfl, rfl, fun c h => absurd h List.not_mem_nil, hown, ⟨rfl, fun i c h => absurd h (by simp)⟩, hb1⟩
  case round =>
    have hwc1 := (hown.lt wc.heap.size rfl).2
    clear hown hb1 hwc1
    obtain ⟨t, svs, cs, ht, rfl, rfl, HL, HC6, HOWN, HIN, hb⟩ := hrel
    have hsum := sum_le_of cs 6000 HC6.out
    rw [HL.out] at hsum
    obtain ⟨sm, hsm⟩ : ∃ sm, cs.sum = sm := ⟨_, rfl⟩
    have HSM := Lib.hid hsm
    rw [hsm] at hsum ⊢
    have hsm2 : sm ≤ 414000 := Nat.le_trans hsum (Nat.le_trans (Nat.mul_le_mul_right 6000 (show t ≤ 69 by omega)) (by omega))
    have hwH : wc.heap.size < wr.heap.size := (HOWN.out.lt wc.heap.size rfl).2
    clear hsm hsum
    by_cases hlt : t < kk
    · obtain ⟨q, hq⟩ : ∃ q, mm / kk = q := ⟨_, rfl⟩
      have hqi : (mm : Int) / (kk : Int) = (q : Int) := by rw [← hq]; push_cast; rfl
      have hqm : q ≤ 5999 := by rw [← hq]; exact Nat.le_trans (Nat.div_le_self _ _) hmm
      obtain ⟨p, hp⟩ : ∃ p, q * (kk - 1) = p := ⟨_, rfl⟩
      have hpm : p ≤ mm := by
        rw [← hp, ← hq]
        exact Nat.le_trans (Nat.mul_le_mul_left _ (Nat.sub_le _ _)) (Nat.div_mul_le_self mm kk)
      have hpi : (q : Int) * ((kk : Int) - 1) = (p : Int) := by
        have e : ((kk : Int) - 1) = ((kk - 1 : Nat) : Int) := by omega
        rw [e, ← hp]; push_cast; rfl
      have hk0 : 0 < kk := by omega
      clear hp hq
      go_upto_if 49 with fail
      go_cut [13] (fun s13 wx => ∃ (c : Nat), c ≤ 6000 ∧ s13 = .int .i64 (c : Int) ∧ wr = wx)
      case first =>
        by_cases e0 : t = 0
        · subst e0
          go_wp2_with fail
          go_meet
          exact ⟨mm - p, by omega, by congr 1; omega, rfl⟩
        · have e1 : ((t : Int) == 0) = false := by simp; omega
          go_wp2_with fail
          go_meet
          exact ⟨q, by omega, rfl, rfl⟩
      case rest =>
      obtain ⟨c, hc, rfl, rfl⟩ := hcut
      clear hqi hqm hpm hpi
      obtain ⟨mk1, hmk1⟩ : ∃ m, m = madeCells #[Value.int .i64 0, Value.int .i64 0, Value.int .i64 0] (c * 3) := ⟨_, rfl⟩
      have hmake1 : ∀ W, Sem.run Tryd.prog (Instr.makeSlice 43 (.int .i64 (c : Int)) (.int .i64 (c : Int))) W = .ok (.slice (some ⟨W.heap.size, 0, none⟩) c c) (W.alloc (.cells mk1 40)) := fun W => by
        have := run_makeSlice (P := Tryd.prog) (w := W) 43 40 i0 _ Tryd.underlying43 hi0 hz0 .i64 .i64 (c : Int) (c : Int) (by omega) (Int.le_refl _) (by rw [hz1]; omega) (by rw [hz2]; omega) (by omega)
        rw [hz1] at this
        rw [hmk1]
        simpa [Value.cells] using this
      have ho2 := ownsRow_below HOWN.out ((Below.refl wr.heap.size wr).alloc (Nat.le_refl _) (.cells mk1 40))
      have hcl : ∃ v0, (wr.alloc (.cells mk1 40)).cell? ⟨wc.heap.size, t, none⟩ = some v0 := by
        refine ⟨_, (ho2.cellAt t (by omega)).trans (List.getElem?_eq_getElem (by have := HIN.out.1; have := HL.out; simp; omega))⟩
      obtain ⟨v0, hcl⟩ := hcl
      have hfl := ho2.frozenAt t
      have hnew := (ho2.stored t (.slice (some ⟨wr.heap.size, 0, none⟩) c c)).1
      have eset : (svs ++ List.replicate (kk - t) (Value.slice none 0 0)).set t (.slice (some ⟨wr.heap.size, 0, none⟩) c c) = (svs ++ [.slice (some ⟨wr.heap.size, 0, none⟩) c c]) ++ List.replicate (kk - (t + 1)) (Value.slice none 0 0) := by
        have hl : svs.length = t := by rw [HIN.out.1, HL.out]
        rw [List.set_append_right _ _ (by omega), hl, Nat.sub_self, show kk - t = (kk - (t + 1)) + 1 by omega, List.replicate_succ, List.set_cons_zero, List.append_assoc]
        rfl
      rw [eset] at hnew
      have hin := HIN.out.step (k := t) (c := c) (t := 40) hwH
      rw [← hmk1] at hin
      have hbn := (below_alloc hb (Nat.le_refl _) (.cells mk1 40)).setCell (p := ⟨wc.heap.size, t, none⟩) (Nat.le_refl _) (.slice (some ⟨wr.heap.size, 0, none⟩) c c)
      rw [World.setCell_alloc_past (hn := hwH)] at hnew hin hbn
      have HNEW := Lib.hid hnew
      have HINN := Lib.hid hin
      have HBN := Lib.hid hbn
      clear hnew hin hbn eset ho2 hmk1 hb
      go_wp2_with fail
      go_roundw
      case rel => exact ⟨t + 1, _, cs ++ [c], by omega, by go_num, by rw [List.sum_append, HSM.out]; simp, by show _ = _; rw [List.length_append, HL.out]; rfl, fun q hq => by
          rcases List.mem_append.1 hq with h | h
          · exact HC6.out q h
          · simp at h; subst h; exact hc, HNEW.out, HINN.out, HBN.out⟩
      case measure => simp [intOf]; omega
    · obtain rfl : t = kk := by omega
      obtain ⟨mk2, hmk2⟩ : ∃ m, m = madeCells #[Value.int .i64 0] nn := ⟨_, rfl⟩
      have hmake2 : ∀ W, Sem.run Tryd.prog (Instr.makeSlice 22 (.int .i64 (nn : Int)) (.int .i64 (nn : Int))) W = .ok (.slice (some ⟨W.heap.size, 0, none⟩) nn nn) (W.alloc (.cells mk2 3)) := fun W => by
        have := run_makeSlice (P := Tryd.prog) (w := W) 22 3 i2 (.int .i64 0) Tryd.underlying22 hi2 hx0 .i64 .i64 (nn : Int) (nn : Int) (by omega) (Int.le_refl _) (by rw [hx1]; omega) (by rw [hx2]; omega) (by omega)
        rw [hx1] at this
        rw [hmk2]
        simpa [Value.cells] using this
      have hown := HOWN.out
      rw [Nat.sub_self, List.replicate_zero, List.append_nil] at hown
      have hscr := HIN.out.scr hown HL.out hwH
      have hb2 : Below wr.heap.size wr (wr.alloc (.cells mk2 3)) := (Below.refl _ _).alloc (Nat.le_refl _) _
      have hscr2 := hscr.below hb2 (Nat.le_refl _)
      have hon : opsN (cs.map zs) = sm := by rw [opsN_zs]; exact HSM.out
      have hrow : Row 0 (wr.heap.size + 1) (wr.alloc (.cells mk2 3)) (some ⟨wr.heap.size, 0, none⟩) nn ((List.replicate nn 0).map Int.ofNat) := by
        rw [hmk2]
        exact ((own_made wr nn 3).row (n := nn) (lo := 0) (hi := wr.heap.size + 1) (by simp) (Nat.zero_le _) (Nat.lt_succ_self _)).ints
      have hsz : wr.heap.size + 1 ≤ (wr.alloc (.cells mk2 3)).heap.size := by simp
      have HB2 : Hid (Below wc.heap.size wc (wr.alloc (.cells mk2 3))) := hb.trans (hb2.mono hb.size)
      have hTab : Hid (Tab (wr.alloc (.cells mk2 3))) := HT.out.below HB2.out hTl
      have HSCR := Lib.hid hscr2
      have HROW := Lib.hid hrow
      have HON := Lib.hid hon
      clear hown hscr hb2 hscr2 hon hrow hmk2 hb
      go_wp2_with fail
      generalize wr.alloc (.cells mk2 3) = w3 at *
      have HNO : Hid (¬ (nn ≤ 4096 ∧ t ≤ 64 ∧ opsN (cs.map zs) ≤ 4096) → Calls Tryd.prog 16 #[.slice (some ⟨wr.heap.size, 0, none⟩) nn nn, .slice (some ⟨wc.heap.size, 0, none⟩) t t, .slice none 0 0] w3 fun e w' => e = .returned (.tuple #[.slice none 0 0, .slice none 0 0, .int .i64 0]) ∧ w3 = w') := fun h =>
        play_no _ _ _ _ _ _ _ _ _ (cs.map zs) w3 HSCR.out (by omega) (by rw [HON.out]; omega) h
      have HA3 : Hid (∀ w4, Below w3.heap.size w3 w4 → Calls Tryd.prog 15 #[] w4 fun e w' => e = .returned (.bool true) ∧ Below wc.heap.size wc w') := fun w4 h4 => by
        have hB4 := HB2.out.trans (h4.mono HB2.out.size)
        refine (awake_any5 w4 (hTab.out.below h4 hTab.out.lt)).mono ?_
        rintro e w' ⟨rfl, hb5⟩
        exact ⟨rfl, hB4.trans (hb5.mono hB4.size)⟩
      by_cases g1 : 4096 < nn
      · refine (HNO.out (fun h => by omega)).mono ?_
        rintro e w4 ⟨rfl, rfl⟩
        have HAW := Lib.hid (HA3.out _ (Below.refl _ _))
        go_wp2_with (first | (go_at_call 15; (with_reducible refine (HAW.out).mono ?_); rintro e w' ⟨rfl, hb5⟩))
        go_ret
        exact ⟨rfl, hb5⟩
      by_cases g2 : 64 < t
      · refine (HNO.out (fun h => by omega)).mono ?_
        rintro e w4 ⟨rfl, rfl⟩
        have HAW := Lib.hid (HA3.out _ (Below.refl _ _))
        go_wp2_with (first | (go_at_call 15; (with_reducible refine (HAW.out).mono ?_); rintro e w' ⟨rfl, hb5⟩))
        go_ret
        exact ⟨rfl, hb5⟩
      by_cases g3 : 4096 < sm
      · refine (HNO.out (fun h => by have := HON.out; omega)).mono ?_
        rintro e w4 ⟨rfl, rfl⟩
        have HAW := Lib.hid (HA3.out _ (Below.refl _ _))
        go_wp2_with (first | (go_at_call 15; (with_reducible refine (HAW.out).mono ?_); rintro e w' ⟨rfl, hb5⟩))
        go_ret
        exact ⟨rfl, hb5⟩
      refine (play_any _ _ none nn nn t t 0 0 ((List.replicate nn 0).map Int.ofNat) [] (cs.map zs) w3 HROW.out hsz HSCR.out (by omega) (lx := 0) (hx := 0) ⟨rfl, .inl rfl⟩ (Nat.zero_le _) (Nat.le_refl _) (by omega) (by omega) (by rw [HON.out]; omega) (by omega) hTab.out).mono ?_
      rintro e w4 ⟨T, gb, cu, ev, rfl, hov, hown, _, hb4⟩
      obtain rfl : T = 0 := hov.uniq (lim_over _ nn cs)
      obtain ⟨ae, ce, rfl⟩ : ∃ a c, ev = .slice a 0 c := by
        obtain ⟨_, ⟨rfl, _⟩ | ⟨g, cap, cur, rfl, _⟩⟩ := hown
        · exact ⟨_, _, rfl⟩
        · exact ⟨_, _, rfl⟩
      have HAW := Lib.hid (HA3.out w4 hb4)
      have k1 : ((nn : Int) == (nn : Int)) = true := by simp
      clear hov hown hb4
      go_wp2_with (first | (go_at_call 15; (with_reducible refine (HAW.out).mono ?_); rintro e w' ⟨rfl, hb5⟩))
      go_ret
      exact ⟨rfl, hb5⟩

end Go.Proofs.YthhcchdjeeigpaaDoor

namespace Go.Proofs.YthhcchdjeeigpaaDoor
open Go.ChangeShapes Go.WideShapes Go.ChangeAt Go.RowKit Go.Joins
open Go.ChangeMaps (open_string shut_string)
set_option linter.unusedVariables false

theorem playLimits_own : ownKnob Tryd.prog.godebug = none := by kernel_rfl
theorem playLimits_laidOut : laidOutB Tryd.prog = true := by kernel_rfl
theorem playLimits_met (os : Os) (args : Array Value) : laidMetH Tryd.prog [("math/bits.deBruijn64tab", Rows.laid_math_bits_deBruijn64tab)] ((World.doorLaid Tryd.prog 14 os).forCall (fun _ _ => 0) ⟨#[], args, []⟩).memory :=
  laidMetH_of_parts3 (fuel := 8) (laidMet_of_run' 8 (by kernel_rfl) (by kernel_rfl)) (by kernel_rfl) (by kernel_rfl)

set_option maxRecDepth 100000 in
theorem playLimits_lifted (os : Os) (started : os.Started) (H : Type) (enc : TypeId × Value → H) :
    ReturnsInHanded {} Tryd.checked os 6 .any (fun w args => (Rows.playLimitsSpec.pre enc Tryd.prog Tryd.f6 [] false w args ∧ laidMetH Tryd.prog [("math/bits.deBruijn64tab", Rows.laid_math_bits_deBruijn64tab)] w) ∧ sizedMet enc Tryd.prog Tryd.f6 (OpenSpec.ofChange Rows.playLimitsSpec) false w args)
      (Rows.playLimitsSpec.post enc Tryd.prog Tryd.f6 false true false false) := by
  refine returnsInHanded_of_change_and (C := Tryd.checked) (X := fun w _ => laidMetH Tryd.prog [("math/bits.deBruijn64tab", Rows.laid_math_bits_deBruijn64tab)] w) (fun _ _ _ hh h => h.of_heap hh) playLimits_own started (by kernel_rfl) Tryd.func6
    (ChangeSpec.witness_shaped (enc := enc) (C := Tryd.checked) (os := os) (X := fun w _ => laidMetH Tryd.prog [("math/bits.deBruijn64tab", Rows.laid_math_bits_deBruijn64tab)] w) false (World.doorLaid Tryd.prog 14 os) #[.int .u16 0, .int .u16 0, .int .u16 0] 8 rfl (World.shaped_of_RefB (by kernel_rfl) (by kernel_rfl)) (by kernel_rfl) (by kernel_rfl) (by kernel_rfl) (playLimits_met os _)) ?_
  intro W base args ds gs before hval0 hW _ _ hL _
  have hval : ∀ (j : Nat) t v, Tryd.f6.params[j]? = some t → args[j]? = some v → Value.okWide Tryd.prog W .any base t v := hval0
  have hW' := hW
  obtain ⟨p, q, hA0, hV, rfl, hfz, hnd⟩ := hW
  have hA : DataW.TrodAll enc Tryd.prog W 0 (fun _ => true) true Tryd.f6.params.toList args.toList ds p := hA0
  rw [Tryd.params6] at hA hval
  obtain ⟨v0, vs0, d0, ds0, p0, q0, hargs, rfl, rfl, h0, r0⟩ := trodAll_cons hA
  obtain ⟨v1, vs1, d1, ds1, p1, q1, rfl, rfl, rfl, h1, r1⟩ := trodAll_cons r0
  obtain ⟨v2, vs2, d2, ds2, p2, q2, rfl, rfl, rfl, h2, r2⟩ := trodAll_cons r1
  obtain ⟨rfl, rfl, rfl⟩ := trodAll_nil r2
  obtain rfl : args = #[v0, v1, v2] := by cases args; simp_all
  obtain ⟨rfl, rfl⟩ := trodVars_none hV
  have tabW := tab_of_laid hL
  have k0 := h0
  have lt0 : ∀ x ∈ p0, x.block < W.heap.size := by obtain ⟨m, hm⟩ := k0; exact DataW.trod_lt m _ _ _ hm
  have k1 := h1
  have lt1 : ∀ x ∈ p1, x.block < W.heap.size := by obtain ⟨m, hm⟩ := k1; exact DataW.trod_lt m _ _ _ hm
  have k2 := h2
  have lt2 : ∀ x ∈ p2, x.block < W.heap.size := by obtain ⟨m, hm⟩ := k2; exact DataW.trod_lt m _ _ _ hm
  obtain ⟨a, rfl, rfl, rfl, wf_a⟩ := open_int Tryd.underlying45 (hval 0 45 v0 rfl rfl) h0
  have bd_a : 0 ≤ a ∧ a ≤ 65535 := by have h := wf_a; simp [Lit.wf, IntKind.min, IntKind.max, IntKind.signed, IntKind.bits] at h; omega
  obtain ⟨k_a, rfl⟩ : ∃ k : Nat, a = k := ⟨a.toNat, by omega⟩
  obtain ⟨b, rfl, rfl, rfl, wf_b⟩ := open_int Tryd.underlying45 (hval 1 45 v1 rfl rfl) h1
  have bd_b : 0 ≤ b ∧ b ≤ 65535 := by have h := wf_b; simp [Lit.wf, IntKind.min, IntKind.max, IntKind.signed, IntKind.bits] at h; omega
  obtain ⟨k_b, rfl⟩ : ∃ k : Nat, b = k := ⟨b.toNat, by omega⟩
  obtain ⟨c, rfl, rfl, rfl, wf_c⟩ := open_int Tryd.underlying45 (hval 2 45 v2 rfl rfl) h2
  have bd_c : 0 ≤ c ∧ c ≤ 65535 := by have h := wf_c; simp [Lit.wf, IntKind.min, IntKind.max, IntKind.signed, IntKind.bits] at h; omega
  obtain ⟨k_c, rfl⟩ : ∃ k : Nat, c = k := ⟨c.toNat, by omega⟩
  clear hA0 hval0
  refine (limits_law k_a k_b k_c W (by omega) (by omega) (by omega) tabW).mono fun e W' ⟨he, bel⟩ => ?_
  subst he
  exact ⟨_, rfl, _, _, _, [], _, [], hW', trodAll_mk1 (shut_bool Tryd.underlying4 _), (trodAll_cons_mk (Below.trod playLimits_laidOut (by kernel_rfl) (of_decide_eq_true (by kernel_rfl)) k0 bel lt0) (trodAll_cons_mk (Below.trod playLimits_laidOut (by kernel_rfl) (of_decide_eq_true (by kernel_rfl)) k1 bel lt1) (trodAll_cons_mk (Below.trod playLimits_laidOut (by kernel_rfl) (of_decide_eq_true (by kernel_rfl)) k2 bel lt2) trodAll_mk0))), rfl, bel.frame _, fun h => by cases h⟩

theorem playLimits_holds : Rows.PlayLimitsSaid :=
  OpenClaim.holds_of_wide 6 Tryd.f6 rfl rfl rfl rfl rfl rfl rfl ⟨rfl, rfl, rfl, rfl, rfl⟩ rfl rfl rfl rfl rfl (by kernel_rfl) Tryd.func6 (by kernel_rfl)
    (of_decide_eq_true (by kernel_rfl)) (by unfold Func.isWrapper; first | (rw [if_pos (by decide +kernel)]; kernel_rfl) | (rw [if_neg (by decide +kernel)]; exact ⟨rfl, rfl⟩))
    (fun os started H enc _ => playLimits_lifted os started H enc)

theorem playLimits_card : Rows.PlayLimitsCardSaid :=
  Claim7.holds_tied_plain_at .later [] [.data] true _ _
    playLimits_holds (fun _ h => by cases h) (by kernel_rfl) (fun _ h => by cases h) playLimits_row_tie rfl ⟨rfl, rfl⟩ (by kernel_rfl) rfl
    (fun f fn hf hfn => by
      obtain rfl : f = 6 := Option.some.inj ((show Tryd.prog.funcNamed "warp/warplaw5.PlayLimits" = some 6 by kernel_rfl).symm.trans hf) |>.symm
      obtain rfl : fn = Tryd.f6 := (Option.some.inj (Tryd.func6.symm.trans hfn)).symm
      exact ⟨by kernel_rfl, fun j t ht => by
        rw [Tryd.params6] at ht
        have hm : t ∈ [45, 45, 45] := by simpa using Array.mem_of_getElem? ht
        have hall : ([45, 45, 45].all fun u => !Tryd.prog.wantsStandIn u) = true := by kernel_rfl
        exact (show Tryd.prog.wantsStandIn t = false by simpa using List.all_eq_true.1 hall t hm)⟩)
    (by kernel_rfl)
#print axioms playLimits_card

end Go.Proofs.YthhcchdjeeigpaaDoor
