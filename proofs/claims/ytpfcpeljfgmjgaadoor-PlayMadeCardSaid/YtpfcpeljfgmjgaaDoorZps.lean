/- Contract of package play's Play. Contract of the statements' awake of layer 5. -/
import Derived.Test.YtpfcpeljfgmjgaaDoorZpa
import Derived.Test.YtpfcpeljfgmjgaaDoorPgoonz
import Derived.Test.YtpfcpeljfgmjgaaDoorCrewz
import Derived.Test.YtpfcpeljfgmjgaaDoorPlaylz
import Derived.Deep.QuietTactic
import Derived.Test.YtpfcpeljfgmjgaaDoorPscrz
namespace Go.Proofs.YtpfcpeljfgmjgaaDoor
open Go.RowKit
set_option linter.unusedVariables false
set_option linter.unusedSimpArgs false

theorem en_waits (g : Gm) : wd (unders g.ws) ||| wd (waits g.ws) = wd g.en := by
  unfold unders waits Gm.en
  exact wd_or g.ws (·.on) (fun k => !k.left.isEmpty)

set_option maxRecDepth 100000 in
set_option maxHeartbeats 2000000 in
theorem enabled_w (w : World) (lo hi C e0 G B gb cu : Nat) (ev psl : Value) (n : Nat) (g : Gm) (H : PG w lo hi C e0 G B gb cu ev psl n g) (W : Nat) (hW : g.ws.length = W) :
    Calls Tryd.prog 40 #[.pointer (some ⟨G, 0, none⟩)] w fun e w' => ∃ a c, e = .returned (.slice a W c) ∧ RowB w.heap.size w'.heap.size w' a W g.en ∧ Below w.heap.size w w' := by
  have hG := H.box.lt
  have hbx := H.box
  have h64 := H.w64
  rw [hW] at h64
  have h1 := wd_lt64 (unders g.ws) (by rw [unders_length]; exact H.w64)
  have h2 := wd_lt64 (waits g.ws) (by rw [waits_length]; exact H.w64)
  have ho := bits_or_u64_nat _ _ h1 h2
  have hel : g.en.length = W := by unfold Gm.en; simpa using hW
  have HH := fun (i : Nat) (w : World) (hi : i < 64) => has_any g.en i w (by omega) hi
  obtain ⟨v, hv⟩ : ∃ v, wd g.en = v := ⟨_, rfl⟩
  rw [en_waits, hv] at ho
  rw [hv] at HH
  obtain ⟨l, hl⟩ : ∃ l, g.en = l := ⟨_, rfl⟩
  rw [hl] at hel HH ⊢
  have HL := Lib.hid hel
  have HHH := Lib.hid HH
  obtain ⟨wt, hwt⟩ : ∃ x, wd (waits g.ws) = x := ⟨_, rfl⟩
  obtain ⟨un, hun⟩ : ∃ x, wd (unders g.ws) = x := ⟨_, rfl⟩
  rw [hwt, hun, hW] at hbx
  rw [hwt, hun] at ho
  obtain ⟨_, _, _, _, _, _, _⟩ := hbx.seven
  obtain ⟨i0, hi0, hz0, hz1, hz2⟩ := info_parts Tryd.boolInfo
  clear H h1 h2 hv hwt hun hbx hel HH hl hW
  go_enter Tryd.func40, Tryd.ntmps40
  go_wp2_with fail
  go_quiet (fail)
  go_wp2_with (at_make; refine wpList_make_full _ rfl _ _ 70 rfl w.heap.size 4 i0 (.bool false) 1 Tryd.underlying70 hi0 hz0 hz1 _ _ _ _ W rfl rfl rfl rfl ?m1 ?m2 ?m3 ?_)
  case m1 => rw [hz2]; omega
  case m2 => unfold maxLen; omega
  case m3 => simp
  intro w1 hown hgr
  rw [toList_madeCells_one] at hown
  have hb1 : Below w.heap.size w w1 := (below_drewN' (Below.refl _ _) nq).grown hgr (Nat.le_refl _) (by simp)
  clear hgr
  go_wp2
  go_loopw [23] (fun i wr => ∃ k : Nat, k ≤ W ∧ i = .int .i64 k ∧ wr.ownsRow w.heap.size 4 1 (.slice (some ⟨w.heap.size, 0, none⟩) W W) W ((l.take k ++ List.replicate (W - k) false).map Value.bool) ∧ Below w.heap.size w wr) (fun i _ => W - (intOf i).toNat)
  case atStart => exact ⟨0, Nat.zero_le _, rfl, by simpa using hown, hb1⟩
  case round =>
    clear hown hb1
    obtain ⟨k, hk, rfl, hown, hb⟩ := hrel
    by_cases hlt : k < W
    · have hsz : w.heap.size < wr.heap.size := (hown.lt w.heap.size rfl).2
      have hcl : ∃ v0, wr.cell? ⟨w.heap.size, k, none⟩ = some v0 := by
        refine ⟨_, (hown.cellAt k (by omega)).trans (List.getElem?_eq_getElem (by have := HL.out; simp; omega))⟩
      obtain ⟨v0, hcl⟩ := hcl
      have hfl := hown.frozenAt k
      have hnew := (hown.stored k (.bool (l.getD k false))).1
      rw [← HL.out, flags_upd l k (by rw [HL.out]; exact hlt), HL.out] at hnew
      have HNEW := Lib.hid hnew
      have HB := Lib.hid hb
      have hk64 : k < 64 := by omega
      clear hnew hown hb
      obtain ⟨b, hbb⟩ : ∃ b, l.getD k false = b := ⟨_, rfl⟩
      have HHk : Hid (∀ W, Calls Tryd.prog 71 #[.int .u64 (v : Int), .int .i64 (k : Int)] W fun e w' => e = .returned (.bool b) ∧ W = w') := fun W => by rw [← hbb]; exact HHH.out k W hk64
      rw [hbb] at HNEW
      clear hbb
      go_wp2_with (first | (go_at_call 71; (with_reducible refine (HHk.out _).mono ?_); rintro e w' ⟨rfl, rfl⟩))
      go_roundw
      case rel => exact ⟨k + 1, by omega, by go_num, HNEW.out, (HB.out.setCell (Nat.le_refl _) _)⟩
      case measure => simp [intOf]; omega
    · obtain rfl : k = W := by omega
      go_wp2_with fail
      go_ret
      have e : l.take k ++ List.replicate (k - k) false = l := by rw [← HL.out]; simp
      rw [e] at hown
      obtain ⟨a1, c1, h1, h2⟩ := RowF.of_owns (f := Value.bool) (d := false) (xs := l) (by rw [HL.out]; exact hown)
      rw [HL.out] at h1 h2
      exact ⟨_, _, by rw [← h1]; rfl, h2, hb⟩

theorem Tab.two {w w' : World} {C : Nat} (h : Tab w) (ht : Two C C w w') (hC : 0 < C) : Tab w' := fun j hj => (World.cell?_of_block (ht.block _ h.lt (by show 0 ≠ C; omega) (by show 0 ≠ C; omega))).trans (h j hj)

/-- The state at a time. -/
abbrev stAt (pr xs : List Int) (n : Nat) (ss : List (List O3)) (t : Nat) : Gm := run pr xs (gm0 n (ss.map (valid n))) t
/-- It is over at T, and was not ahead of it. -/
def Over (pr xs : List Int) (n : Nat) (ss : List (List O3)) (T : Nat) : Prop := (∀ t, t < T → on 0 (stAt pr xs n ss t).en ≠ []) ∧ on 0 (stAt pr xs n ss T).en = []

theorem all_ok (n : Nat) (ss : List (List O3)) : ∀ s ∈ ss.map (valid n), ∀ o ∈ s, o.ok n := by
  intro s hs o ho
  obtain ⟨q, _, rfl⟩ := List.mem_map.1 hs
  exact valid_ok o ho
theorem opsIn_valid (n : Nat) (ss : List (List O3)) : opsIn (ss.map (valid n)) ≤ opsN ss := by
  unfold opsIn opsN
  rw [List.map_map]
  exact sum_le_map fun s _ => valid_length_le n s
theorem st_len (pr xs : List Int) (n : Nat) (ss : List (List O3)) (t : Nat) : (stAt pr xs n ss t).ws.length = ss.length := by
  show (run pr xs (gm0 n (ss.map (valid n))) t).ws.length = _
  rw [run_len]; simp
theorem wd_zero_en {en : List Bool} : wd en = 0 ↔ on 0 en = [] := wd_zero_iff en 0
/-- So soon all have ended. -/
theorem over_le {pr xs : List Int} {n : Nat} {ss : List (List O3)} {t : Nat} (h : ∀ t', t' < t → on 0 (stAt pr xs n ss t').en ≠ []) : t ≤ opsIn (ss.map (valid n)) * (16 * n + 1) := by
  have h1 := run_wt (pr := pr) (picks := xs) (all_ok n ss) t
  have h2 := (run_lin (pr := pr) (picks := xs) (all_ok n ss) t h).1
  omega
theorem lens_le {pr xs : List Int} {n : Nat} {ss : List (List O3)} : ∀ t, (stAt pr xs n ss t).l.length ≤ t
  | 0 => Nat.le_refl _
  | t + 1 => by
    have ih := lens_le (pr := pr) (xs := xs) (n := n) (ss := ss) t
    show (run pr xs (gm0 n (ss.map (valid n))) (t + 1)).l.length ≤ t + 1
    unfold run
    split
    · exact Nat.le_succ_of_le ih
    · show (if _ then _ else _ : List Ev).length ≤ t + 1
      split
      · rw [List.length_append]; exact Nat.succ_le_succ ih
      · exact Nat.le_succ_of_le ih
theorem sum_set_eq {α : Type} {f : α → Nat} {d a : α} : ∀ {l : List α} {i : Nat}, i < l.length → ((l.set i a).map f).sum + f (l.getD i d) = (l.map f).sum + f a
  | b :: l, 0, _ => by simp; omega
  | b :: l, i + 1, hi => by
    have ih := sum_set_eq (f := f) (d := d) (a := a) (l := l) (i := i) (by simpa using hi)
    simp at ih ⊢; omega
/-- How many of its operations have not ended. -/
def Wk.pend (k : Wk) : Nat := k.left.length + if k.on then 1 else 0
theorem beg_pend {k : Wk} (he : k.en = true) (tm : Nat) : (k.beg tm).pend = k.pend := by
  unfold Wk.beg
  split
  · rfl
  · next e =>
    cases hl : k.left with
    | nil => simp [Wk.en, hl] at he; exact absurd he e
    | cons o r => simp [Wk.pend, hl, e]
theorem run_cnt {pr picks : List Int} {n : Nat} {ss : List (List Opn)} (h : ∀ s ∈ ss, ∀ o ∈ s, o.ok n) : ∀ f, (run pr picks (gm0 n ss) f).l.length + ((run pr picks (gm0 n ss) f).ws.map Wk.pend).sum = opsIn ss
  | 0 => by
    show 0 + ((ss.map Wk.new).map Wk.pend).sum = (ss.map List.length).sum
    rw [List.map_map, Nat.zero_add]
    rfl
  | f + 1 => by
    have ih := run_cnt (pr := pr) (picks := picks) h f
    by_cases e : on 0 (run pr picks (gm0 n ss) f).en = []
    · rw [run, if_pos e]; exact ih
    · rw [run_next e]
      generalize hg : run pr picks (gm0 n ss) f = g at *
      have hw := Gm.who_lt (picks := picks) e
      have he := Gm.who_en (picks := picks) e
      generalize g.who picks = w at *
      have G : GInv n pr g := by rw [← hg]; exact run_inv (ginv0 h) f
      have W := went G hw he
      have h1 := sum_set_eq (f := Wk.pend) (d := Wk.new []) (a := g.sp pr w) hw
      have h2 : (g.ws.getD w (Wk.new [])).pend = (g.bg w).pend := (beg_pend he _).symm
      have h3 : (g.bg w).pend = (g.bg w).left.length + 1 := by unfold Wk.pend; rw [W.on]; rfl
      have h4 : (g.sp pr w).pend = (g.bg w).left.length + if (g.sp pr w).t.dn then 0 else 1 := by
        show (g.bg w).left.length + (if (!(tks g.up pr (g.bg w).t).dn) = true then 1 else 0) = _ + if (tks g.up pr (g.bg w).t).dn = true then 0 else 1
        cases (tks g.up pr (g.bg w).t).dn <;> rfl
      have h5 : (adv pr g w).l.length = g.l.length + if (g.sp pr w).t.dn then 1 else 0 := by
        show (if (g.sp pr w).t.dn then g.l ++ [evOf w (g.sp pr w) (g.tm + 1)] else g.l).length = _
        split <;> simp
      show (adv pr g w).l.length + ((g.ws.set w (g.sp pr w)).map Wk.pend).sum = _
      rw [h5]
      rw [h2, h3] at h1
      rw [h4] at h1
      split at h1 <;> split <;> simp_all <;> omega
theorem len_le {pr xs : List Int} {n : Nat} {ss : List (List O3)} (t : Nat) : (stAt pr xs n ss t).l.length ≤ opsIn (ss.map (valid n)) := by
  have := run_cnt (pr := pr) (picks := xs) (all_ok n ss) t
  show (run pr xs (gm0 n (ss.map (valid n))) t).l.length ≤ _
  omega
theorem en_length (pr xs : List Int) (n : Nat) (ss : List (List O3)) (t : Nat) : (stAt pr xs n ss t).en.length = ss.length := by
  rw [← st_len pr xs n ss t]; unfold Gm.en; simp

/-- The game ahead of its first time, when the chooser lies behind it. -/
theorem PS.game {w w5 : World} {lo G B gb cu n C : Nat} {psl : Value} {ss : List (List O3)} (h : PS lo w G B gb cu psl n (ss.map fun s => Wk.new (valid n s))) (hl : lo ≤ w.heap.size) (hb : Below w.heap.size w w5) (hC : w.heap.size ≤ C) (hs : C + 1 ≤ w5.heap.size) (h64 : ss.length ≤ 64) :
    PG w5 lo w.heap.size C (C + 1) G B gb cu (.slice none 0 0) psl n (stAt [] [] n ss 0) := by
  have e : (gm0 n (ss.map (valid n))).ws = ss.map fun s => Wk.new (valid n s) := by unfold gm0; rw [List.map_map]; rfl
  have hu : wd (unders (ss.map fun s => Wk.new (valid n s))) = 0 := by
    have : unders (ss.map fun s => Wk.new (valid n s)) = List.replicate ss.length false := by
      unfold unders
      rw [List.map_map, ← List.map_const' ]
      rfl
    rw [this]; exact wd_replicate_false _
  have hgl := h.gl
  have hbl := h.bl
  have hul := h.ul
  have hbx := h.box.below hb
  refine ⟨?_, h.up.below hb (by omega), ?_, World.ownsRow_nil _ _ _ _, hgl, hbl, hl, hC, by omega, hs, h.gB, fun e => h.gu e.symm, fun e => h.bu e.symm, by omega, fun q hq => (by cases hq), ?_⟩
  · show Box w5 G _ [psl, _, .slice _ (gm0 n (ss.map (valid n))).ws.length (gm0 n (ss.map (valid n))).ws.length, .int .u64 (wd (waits (gm0 n (ss.map (valid n))).ws) : Nat), .int .u64 (wd (unders (gm0 n (ss.map (valid n))).ws) : Nat), _, _]
    rw [e, hu]
    exact hbx
  · show WRow lo w.heap.size w5 B (gm0 n (ss.map (valid n))).ws
    rw [e]
    exact h.rows.agree (fun b hb' => hb.block b (by rcases hb' with rfl | h' <;> omega)) hb.size
  · show (gm0 n (ss.map (valid n))).ws.length ≤ 64
    rw [e]; simpa using h64

set_option maxRecDepth 100000 in
set_option maxHeartbeats 8000000 in
theorem play_any (a b c : Option Addr) (la ca lb cb lc cc : Nat) (pr xs : List Int) (ss : List (List O3)) (w : World) {lp hp ls lx hx : Nat} (hpr : Row lp hp w a la pr) (hp1 : hp ≤ w.heap.size) (hs : Scr ls w b lb ss) (hs1 : ls ≤ w.heap.size) (hxs : Row lx hx w c lc xs) (hx1 : hx ≤ w.heap.size) (hcap : lc ≤ cc)
    (hm1 : la ≤ 4096) (hm2 : lb ≤ 64) (hm3 : opsN ss ≤ 4096) (hm4 : lc ≤ 100000) (hT : Tab w) :
    Calls Tryd.prog 12 #[.slice a la ca, .slice b lb cb, .slice c lc cc] w fun e w' => ∃ (T gb cu : Nat) (ev : Value), e = .returned (.tuple #[ev, .slice (some ⟨gb, 0, none⟩) la cu, .int .i64 (T : Int)]) ∧ Over pr xs la ss T ∧
      w'.ownsRow w.heap.size 42 8 ev (stAt pr xs la ss T).l.length (cellsE (stAt pr xs la ss T).l) ∧ Own w' gb (stAt pr xs la ss T).up ∧ Below w.heap.size w w' := by
  have hsl : ss.length = lb := hs.1
  have hxl : xs.length = lc := hxs.1
  have HMAY : Hid (∀ w0, Scr ls w0 b lb ss → Calls Tryd.prog 36 #[.int .i64 (la : Int), .slice b lb cb] w0 fun e w' => e = .returned (.bool true) ∧ w0 = w') := fun w0 h => by
    have := may_play (la : Int) b lb cb ss w0 h (by omega) (by omega)
    rwa [decide_eq_true (by omega)] at this
  have HS := Lib.hid hs
  have HPR := Lib.hid hpr
  have HX := Lib.hid hxs
  have HT := Lib.hid hT
  have HSL := Lib.hid hsl
  have HXL := Lib.hid hxl
  have hTl := hT.lt
  have HM3 := Lib.hid hm3
  clear hs hpr hxs hT hsl hxl hm3
  go_enter Tryd.func12, Tryd.ntmps12
  go_wp2_with (first | (go_at_call 36; (with_reducible refine (HMAY.out _ HS.out).mono ?_); rintro e w' ⟨rfl, rfl⟩))
  refine (start_any a b la ca lb cb ss _ HS.out hs1 hm1 hm2 HM3.out).mono ?_
  rintro e w3 ⟨lo, G, B, gb, rfl, l1, l2, l3, lsz, hps, hb3⟩
  have s3 := hb3.size
  have HPS := Lib.hid hps
  have HB3 := Lib.hid hb3
  clear hps hb3
  go_wp2_with fail
  refine (by_any c lc cc xs _ (HX.out.below HB3.out hx1) (by omega) (by omega)).mono ?_
  rintro e w5 ⟨C, rfl, htn, hC3, hC5, hb5⟩
  have hpg := HPS.out.game (C := C) lsz hb5 hC3 hC5 (by have := HSL.out; omega)
  have HTN := Lib.hid htn
  have HPG := Lib.hid hpg
  have HB5 : Hid (Below w.heap.size w w5) := HB3.out.trans (hb5.mono s3)
  clear htn hpg hb5
  go_wp2_with fail
  refine (enabled_w w5 _ _ _ _ _ _ _ _ _ _ _ (stAt pr xs la ss 0) HPG.out lb (by rw [st_len, HSL.out])).mono ?_
  rintro e w6 ⟨a6, c6, rfl, hr6, hb6⟩
  have s5 := HB5.out.size
  have s6 := hb6.size
  have HR6 := Lib.hid hr6
  have HB6 : Hid (Below w.heap.size w w6) := HB5.out.trans (hb6.mono s5)
  have HTN6 : Hid (Tn w6 C w3.heap.size C xs 0 (-1)) := HTN.out.below hb6 hC5
  have HPG6 : Hid (PG w6 lo w3.heap.size C (C + 1) G B gb la (.slice none 0 0) (.slice a la ca) la (stAt pr xs la ss 0)) := HPG.out.two (Two.of_below hb6) rfl
  have HT6 : Hid (Tab w6) := HT.out.below HB6.out hTl
  clear hr6 hb6
  go_wp2_with fail
  obtain ⟨x0, hx0⟩ : ∃ x0, nxt xs 0 (-1) (stAt pr xs la ss 0).en = x0 := ⟨_, rfl⟩
  refine (turn_any w6 C _ _ xs 0 (-1) a6 lb c6 _ HTN6.out (by have := HXL.out; omega) HR6.out (Nat.le_refl _) (by omega) HT6.out (by omega) x0 hx0).mono ?_
  rintro e w7 ⟨rfl, htn7, ht7⟩
  have HX0 := Lib.hid hx0
  have HTN7 := Lib.hid htn7
  have s7 := ht7.size
  have HPG7 : Hid (PG w7 lo w3.heap.size C (C + 1) G B gb la (.slice none 0 0) (.slice a la ca) la (stAt pr xs la ss 0)) := HPG6.out.two ht7 rfl
  have HB7 : Hid (Below w.heap.size w w7) := HB6.out.trans (ht7.below (by omega) (by omega) (by omega))
  have HSZ : Hid (w.heap.size ≤ w3.heap.size) := s3
  clear hx0 htn7 ht7 HTN HPG HTN6 HPG6 HT6 HR6 HB5 HB6
  go_wp2_with fail
  obtain ⟨N, hN⟩ : ∃ N, N = opsIn (ss.map (valid la)) * (16 * la + 1) + 1 := ⟨_, rfl⟩
  have HN := Lib.hid hN
  clear hN
  go_loopg [11] (N) (fun gn ev wr => ∃ (t : Nat) (x : Int) (gb cu : Nat) (evv : Value), gn + t = N ∧ ev = .int .i64 x ∧ Hid (nxt xs t (stAt pr xs la ss t).last (stAt pr xs la ss t).en = x) ∧ Hid (PG wr lo w3.heap.size C (C + 1) G B gb cu evv (.slice a la ca) la (stAt pr xs la ss t)) ∧ Hid (on 0 (stAt pr xs la ss t).en ≠ [] → Tn wr C w3.heap.size C xs (t + 1) x) ∧ Hid (Below w.heap.size w wr) ∧ Hid (∀ t', t' < t → on 0 (stAt pr xs la ss t').en ≠ []))
  case atStart => exact ⟨0, x0, gb, la, .slice none 0 0, Nat.add_zero _, rfl, HX0.out, HPG7.out, HTN7.out, HB7.out, fun t h => absurd h (Nat.not_lt_zero _)⟩
  case round =>
    clear HX0 HPG7 HTN7 HB7
    obtain ⟨t, x, gb', cu, evv, hgk, rfl, HXT, HP, HC, HB, HNE⟩ := hrel
    have hsl := HSL.out
    have hbx := HP.out.box
    rw [st_len, hsl] at hbx
    have HLW : (stAt pr xs la ss t).ws.length = lb := by rw [st_len, hsl]
    have q0 := hbx.cell 2
    have q1 := hbx.cell 1
    have q5 := hbx.cell 5
    have q6 := hbx.cell 6
    simp only [List.getElem?_cons_zero, List.getElem?_cons_succ] at q0 q1 q5 q6
    have hGl := hbx.lt
    have hsr := HB.out.size
    have htl := over_le HNE.out
    have hTM : (stAt pr xs la ss t).tm = t := (run_lin (pr := pr) (picks := xs) (all_ok la ss) t HNE.out).1
    have HTM := Lib.hid hTM
    have HLWH := Lib.hid HLW
    by_cases hon : on 0 (stAt pr xs la ss t).en = []
    · obtain rfl : x = -1 := by rw [← HXT.out]; unfold nxt; rw [if_pos hon]
      rw [hTM] at q6
      have HON := Lib.hid hon
      clear hon hbx hTM HLW htl hsl hgk
      go_wp2_with fail
      go_quiet (fail)
      go_wp2_with fail
      refine bodyPost_ret (v := .tuple #[evv, .slice (some ⟨gb', 0, none⟩) la cu, .int .i64 (t : Int)]) (by simp only [results, Tryd.results12]; go_simp) rfl ?_
      refine ⟨t, gb', cu, evv, rfl, ⟨HNE.out, HON.out⟩, ?_, HP.out.up.drewN _, below_drewN' HB.out _⟩
      have he := HP.out.evs
      refine ownsRow_base (ownsRow_agree (w' := wr.drewN nq) he fun q hq => rfl) (by have := HSZ.out; omega)
    · obtain ⟨y, hy⟩ : ∃ y : Nat, whoN xs t (stAt pr xs la ss t).last (stAt pr xs la ss t).en = y := ⟨_, rfl⟩
      obtain rfl : (y : Int) = x := by rw [← HXT.out]; unfold nxt; rw [if_neg hon, hy]
      have hwho : (stAt pr xs la ss t).who xs = y := by unfold Gm.who; rw [hTM]; exact hy
      have hxl2 : y < (stAt pr xs la ss t).ws.length := by rw [← hwho]; exact Gm.who_lt hon
      have hxe : ((stAt pr xs la ss t).wk y).en = true := by rw [← hwho]; exact Gm.who_en hon
      have hGI : GInv la pr (stAt pr xs la ss t) := run_inv (ginv0 (all_ok la ss)) t
      have hW := went hGI hxl2 hxe
      have hnx : stAt pr xs la ss (t + 1) = adv pr (stAt pr xs la ss t) y := by rw [← hwho]; exact run_next hon
      have hTr : Tab wr := HT.out.below HB.out hTl
      have hll := len_le (pr := pr) (xs := xs) (n := la) (ss := ss) t
      have hop := opsIn_valid la ss
      have hmul : opsIn (ss.map (valid la)) * (16 * la + 1) ≤ 4096 * (16 * 4096 + 1) := Nat.mul_le_mul (Nat.le_trans hop HM3.out) (by omega)
      have HGO : Hid (Calls Tryd.prog 41 #[.pointer (some ⟨G, 0, none⟩), .int .i64 (y : Int)] wr fun e w'' => e = .returned (.tuple #[]) ∧ ∃ gb2 cu2 ev2, PG w'' lo w3.heap.size C (C + 1) G B gb2 cu2 ev2 (.slice a la ca) la (stAt pr xs la ss (t + 1)) ∧ Chg (C + 1) G B wr w'') := by
        rw [hnx]
        exact goon_w wr _ _ _ _ G B gb' cu evv a ca la pr (stAt pr xs la ss t) y HP.out hGI hW hxe (HPR.out.below HB.out hp1) (by omega) (by omega) hm1 (by have := HM3.out; omega) (by rw [hTM]; omega)
      have hlast : (stAt pr xs la ss (t + 1)).last = (y : Int) := by rw [hnx]; rfl
      have hT1 := HC.out hon
      have HT1 := Lib.hid hT1
      have HLAST := Lib.hid hlast
      have HONN := Lib.hid hon
      have HTR := Lib.hid hTr
      have hgk1 : t < N := by have := HN.out; omega
      have hlen1 : (stAt pr xs la ss (t + 1)).ws.length = lb := by rw [st_len, hsl]
      have HL1 := Lib.hid hlen1
      have hlo := HP.out.gl
      have hbo := HP.out.bl
      have hlh := HP.out.lh
      have hes := HP.out.es
      obtain ⟨x2, hx2⟩ : ∃ x2, nxt xs (t + 1) (y : Int) (stAt pr xs la ss (t + 1)).en = x2 := ⟨_, rfl⟩
      have HX2 := Lib.hid hx2
      clear hbx hTM HLW htl hsl hon hy hwho hxl2 hxe hGI hW hnx hTr hll hop hmul hlast q1 q5 q6 hT1 hlen1 hx2
      go_wp2_with fail
      refine (HGO.out).mono ?_
      rintro e wg ⟨rfl, gb2, cu2, ev2, hP2, hch2⟩
      have sg := hch2.size
      have HP2 := Lib.hid hP2
      have HTG : Hid (Tn wg C w3.heap.size C xs (t + 1) (y : Int)) := HT1.out.agree fun k hk => hch2.block k (by rcases hk with rfl | hk <;> omega) (by rcases hk with rfl | hk <;> omega) (by rcases hk with rfl | hk <;> omega)
      have HBG : Hid (Below w.heap.size w wg) := HB.out.trans (hch2.below (by omega) l1 l2)
      have HTT : Hid (Tab wg) := HT.out.below HBG.out hTl
      clear hP2 hch2 HGO HTR
      go_wp2_with fail
      refine (enabled_w wg _ _ _ _ _ _ _ _ _ _ _ (stAt pr xs la ss (t + 1)) HP2.out lb HL1.out).mono ?_
      rintro e we ⟨a8, c8, rfl, hr8, hb8⟩
      have s8 := hb8.size
      have HR8 := Lib.hid hr8
      have hCg : C < wg.heap.size := by omega
      have HTE := Lib.hid (HTG.out.below hb8 hCg)
      have HPE : Hid (PG we lo w3.heap.size C (C + 1) G B gb2 cu2 ev2 (.slice a la ca) la (stAt pr xs la ss (t + 1))) := HP2.out.two (Two.of_below hb8) rfl
      have HBE : Hid (Below w.heap.size w we) := HBG.out.trans (hb8.mono HBG.out.size)
      have HTTE : Hid (Tab we) := HT.out.below HBE.out hTl
      clear hr8 hb8
      go_wp2_with fail
      refine (turn_any we C _ _ xs (t + 1) (y : Int) a8 lb c8 _ HTE.out (by have := HXL.out; omega) HR8.out (Nat.le_refl _) (by omega) HTTE.out (by omega) x2 HX2.out).mono ?_
      rintro e wn ⟨rfl, htn9, ht9⟩
      have HTN9 := Lib.hid htn9
      have HPN : Hid (PG wn lo w3.heap.size C (C + 1) G B gb2 cu2 ev2 (.slice a la ca) la (stAt pr xs la ss (t + 1))) := HPE.out.two ht9 rfl
      have HBN : Hid (Below w.heap.size w wn) := HBE.out.trans (ht9.below (by omega) (by omega) (by omega))
      clear htn9 ht9
      have hne' : ∀ t', t' < t + 1 → on 0 (stAt pr xs la ss t').en ≠ [] := fun t' h => by
        by_cases e : t' < t
        · exact HNE.out t' e
        · obtain rfl : t' = t := by omega
          exact HONN.out
      have HNE' := Lib.hid hne'
      clear hne'
      go_wp2_with fail
      go_roundg (gk - 1)
      case measure => omega
      case rel => exact ⟨t + 1, x2, gb2, cu2, ev2, by omega, rfl, by show nxt _ _ _ _ = _; rw [HLAST.out]; exact HX2.out, HPN.out, HTN9.out, HBN.out, HNE'.out⟩

end Go.Proofs.YtpfcpeljfgmjgaaDoor

namespace Go.Proofs.YtpfcpeljfgmjgaaDoor
open Go.RowKit
set_option linter.unusedVariables false
set_option linter.unusedSimpArgs false

theorem Over.uniq {pr xs : List Int} {n : Nat} {ss : List (List O3)} {T T' : Nat} (h : Over pr xs n ss T) (h' : Over pr xs n ss T') : T = T' := by
  rcases Nat.lt_trichotomy T T' with e | e | e
  · exact absurd h.2 (h'.1 T e)
  · exact e
  · exact absurd h'.2 (h.1 T' e)

theorem awk_over : Over [1, 2] [] 2 [[(3, 0, 1)]] 3 := by
  refine ⟨fun t ht => ?_, by decide⟩
  have : t = 0 ∨ t = 1 ∨ t = 2 := by omega
  rcases this with rfl | rfl | rfl <;> decide
theorem awk_l : (stAt [1, 2] [] 2 [[(3, 0, 1)]] 3).l = [⟨0, 3, 0, 1, 1, 1, 3, 3⟩] := by decide
theorem awk_up : (stAt [1, 2] [] 2 [[(3, 0, 1)]] 3).up = [1, 1] := by decide
theorem nil_over (pr : List Int) (n : Nat) : Over pr [] n [] 0 := ⟨fun t ht => absurd ht (Nat.not_lt_zero _), rfl⟩

theorem scr_one (w : World) (o1 : Obj) : Scr (((w.alloc o1).alloc (.cells #[.int .i64 3, .int .i64 0, .int .i64 1] 40)).alloc (.cells #[.slice (some ⟨w.heap.size + 1, 0, none⟩) 1 1] 43)).heap.size
    (((w.alloc o1).alloc (.cells #[.int .i64 3, .int .i64 0, .int .i64 1] 40)).alloc (.cells #[.slice (some ⟨w.heap.size + 1, 0, none⟩) 1 1] 43)) (some ⟨w.heap.size + 1 + 1, 0, none⟩) 1 [[(3, 0, 1)]] := by
  have b1 := (Box.new (w.alloc o1) 40 [.int .i64 3, .int .i64 0, .int .i64 1]).alloc (.cells #[.slice (some ⟨w.heap.size + 1, 0, none⟩) 1 1] 43)
  have b2 := Box.new ((w.alloc o1).alloc (.cells #[.int .i64 3, .int .i64 0, .int .i64 1] 40)) 43 [.slice (some ⟨w.heap.size + 1, 0, none⟩) 1 1]
  rw [World.size_alloc] at b1
  rw [World.size_alloc, World.size_alloc] at b2
  refine ⟨rfl, .inr ⟨w.heap.size + 1 + 1, 0, rfl, by simp, fun i s hs => ?_⟩⟩
  have hi : i = 0 := by have := (List.getElem?_eq_some_iff.1 hs).1; simp at this; exact this
  subst hi
  simp at hs
  subst hs
  refine ⟨_, _, b2.cell 0, rfl, .inr ⟨w.heap.size + 1, 0, rfl, Nat.zero_le _, by simp, fun i x hx j v hv => ?_⟩⟩
  have hi : i = 0 := by have := (List.getElem?_eq_some_iff.1 hx).1; simp at this; exact this
  subst hi
  simp at hx
  subst hx
  simp only [Nat.zero_mul, Nat.zero_add]
  exact (b1.cell j).trans hv

set_option maxRecDepth 100000 in
set_option maxHeartbeats 4000000 in
theorem awake_any5 (w : World) (hT : Tab w) : Calls Tryd.prog 11 #[] w fun e w' => e = .returned (.bool true) ∧ Below w.heap.size w w' := by
  have hg0 : ∀ o1 o2 o3, Below w.heap.size w (((w.alloc o1).alloc o2).alloc o3) := fun o1 o2 o3 => by go_grown
  have HT := Lib.hid hT
  clear hT
  go_enter Tryd.func11, Tryd.ntmps11
  go_wp2_with fail
  have hsc := scr_one w (.cells #[.int .i64 1, .int .i64 2] 3)
  have hpr : Row w.heap.size (w.heap.size + 1) (((w.alloc (.cells #[.int .i64 1, .int .i64 2] 3)).alloc (.cells #[.int .i64 3, .int .i64 0, .int .i64 1] 40)).alloc (.cells #[.slice (some ⟨w.heap.size + 1, 0, none⟩) 1 1] 43)) (some ⟨w.heap.size, 0, none⟩) 2 [1, 2] := by
    have b1 := ((Box.new w 3 [.int .i64 1, .int .i64 2]).alloc (.cells #[.int .i64 3, .int .i64 0, .int .i64 1] 40)).alloc (.cells #[.slice (some ⟨w.heap.size + 1, 0, none⟩) 1 1] 43)
    refine ⟨rfl, .inr ⟨w.heap.size, 0, rfl, Nat.le_refl _, by omega, fun i hi => ?_⟩⟩
    have : i = 0 ∨ i = 1 := by omega
    rcases this with rfl | rfl
    · exact b1.cell 0
    · exact b1.cell 1
  have hbg := hg0 (.cells #[.int .i64 1, .int .i64 2] 3) (.cells #[.int .i64 3, .int .i64 0, .int .i64 1] 40) (.cells #[.slice (some ⟨w.heap.size + 1, 0, none⟩) 1 1] 43)
  have hTg := HT.out.below hbg HT.out.lt
  have hsg : w.heap.size + 1 ≤ (((w.alloc (.cells #[.int .i64 1, .int .i64 2] 3)).alloc (.cells #[.int .i64 3, .int .i64 0, .int .i64 1] 40)).alloc (.cells #[.slice (some ⟨w.heap.size + 1, 0, none⟩) 1 1] 43)).heap.size := by simp
  generalize ((w.alloc (.cells #[.int .i64 1, .int .i64 2] 3)).alloc (.cells #[.int .i64 3, .int .i64 0, .int .i64 1] 40)).alloc (.cells #[.slice (some ⟨w.heap.size + 1, 0, none⟩) 1 1] 43) = w3 at *
  refine (play_any (some ⟨w.heap.size, 0, none⟩) (some ⟨w.heap.size + 1 + 1, 0, none⟩) none 2 2 1 1 0 0 [1, 2] [] [[(3, 0, 1)]] w3 hpr hsg hsc (Nat.le_refl _) (lx := 0) (hx := 0) ⟨rfl, .inl rfl⟩ (Nat.zero_le _) (Nat.le_refl _) (by omega) (by omega) (by decide) (by omega) hTg).mono ?_
  rintro e w4 ⟨T, gb, cu, ev, rfl, hov, hown, hup, hb4⟩
  obtain rfl : T = 3 := hov.uniq awk_over
  rw [awk_l] at hown
  rw [awk_up] at hup
  obtain ⟨g, cap, rfl, hg1, hg2⟩ := hown.form (by decide)
  have s4 := hb4.size
  have hTl := hTg.lt
  have hT4 := hTg.below hb4 hTl
  have HOWN := Lib.hid hown
  have HUP := Lib.hid hup
  have HB4 : Hid (Below w.heap.size w w4) := hbg.trans (hb4.mono (by omega))
  have HT4 := Lib.hid hT4
  clear hov hown hup hb4 hsc hpr hbg hTg hT4 hg0
  go_wp2_with fail
  refine (play_any none none none 0 0 0 0 0 0 [] [] [] w4 (lp := 0) (hp := 0) ⟨rfl, .inl rfl⟩ (Nat.zero_le _) (ls := 0) ⟨rfl, .inl rfl⟩ (Nat.zero_le _) (lx := 0) (hx := 0) ⟨rfl, .inl rfl⟩ (Nat.zero_le _) (Nat.le_refl _) (by omega) (by omega) (by decide) (by omega) HT4.out).mono ?_
  rintro e w5 ⟨T, gb2, cu2, ev2, rfl, hov, hown2, _, hb5⟩
  obtain rfl : T = 0 := hov.uniq (nil_over [] 0)
  obtain ⟨a2, c2, rfl⟩ : ∃ a c, ev2 = .slice a 0 c := by
    obtain ⟨_, ⟨rfl, _⟩ | ⟨g, cap, cur, rfl, _⟩⟩ := hown2
    · exact ⟨_, _, rfl⟩
    · exact ⟨_, _, rfl⟩
  have s5 := hb5.size
  have HB5 : Hid (Below w.heap.size w w5) := HB4.out.trans (hb5.mono (by have := HB4.out.size; omega))
  have ho5 := ownsRow_below HOWN.out hb5
  have c4 := ho5.cellAt 4 (by decide)
  have c7 := ho5.cellAt 7 (by decide)
  have e4 : (cellsE [⟨0, 3, 0, 1, 1, 1, 3, 3⟩])[4]? = some (.int .i64 1) := rfl
  have e7 : (cellsE [⟨0, 3, 0, 1, 1, 1, 3, 3⟩])[7]? = some (.int .i64 3) := rfl
  rw [e4] at c4
  rw [e7] at c7
  have hu5 := HUP.out.below hb5 HUP.out.1
  have hg5 : g < w5.heap.size := by omega
  have b11 := (Box.new w5 3 [.int .i64 1, .int .i64 1])
  have r11 : RowN w5.heap.size (w5.alloc (.cells #[.int .i64 1, .int .i64 1] 3)).heap.size (w5.alloc (.cells #[.int .i64 1, .int .i64 1] 3)) (some ⟨w5.heap.size, 0, none⟩) 2 [1, 1] := by
    refine ⟨rfl, .inr ⟨w5.heap.size, 0, rfl, Nat.le_refl _, by simp, fun i hi => ?_⟩⟩
    have : i = 0 ∨ i = 1 := by omega
    rcases this with rfl | rfl
    · exact b11.cell 0
    · exact b11.cell 1
  have hu6 := (hu5.alloc (.cells #[.int .i64 1, .int .i64 1] 3)).row (n := 2) (lo := 0) (hi := w5.heap.size) rfl (Nat.zero_le _) hu5.1
  have HI : Hid (Calls Tryd.prog 15 #[.slice (some ⟨gb, 0, none⟩) 2 cu, .slice (some ⟨w5.heap.size, 0, none⟩) 2 2] (w5.alloc (.cells #[.int .i64 1, .int .i64 1] 3)) fun e w' => e = .returned (.bool true) ∧ ∃ n, w' = (w5.alloc (.cells #[.int .i64 1, .int .i64 1] 3)).drewN n) := by
    have := ints_any _ _ 2 2 cu 2 _ _ _ hu6.ints r11.ints (by omega)
    simp at this
    exact this
  clear hov hown2 hb5 ho5 hu5 b11 r11 hu6 e4 e7 HUP HOWN HT4 HB4
  go_wp2_with (first | (go_at_call 15; (with_reducible refine (HI.out).mono ?_); rintro e w' ⟨rfl, n, rfl⟩))
  go_ret
  exact ⟨rfl, below_drewN' (HB5.out.alloc (by omega) _) _⟩

end Go.Proofs.YtpfcpeljfgmjgaaDoor
