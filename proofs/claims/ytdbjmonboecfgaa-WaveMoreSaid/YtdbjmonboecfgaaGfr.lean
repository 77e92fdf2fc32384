/- Package scc: from. -/
import Derived.Test.YtdbjmonboecfgaaGen
import Derived.Test.YtdbjmonboecfgaaGlv
namespace Go.Proofs.Ytdbjmonboecfgaa
open Go.RowKit Go.Maps
set_option linter.unusedVariables false
set_option linter.unusedSimpArgs false

theorem Gok.heads {G : Nat → Nat → Nat} {x p : Nat} {r : List (Nat × Nat)} (h : Gok G ((x, p) :: r)) : ∀ q ∈ r.head?, G q.1 x = q.2 := by
  intro q hq
  cases r with
  | nil => simp at hq
  | cons a l => simp at hq; subst hq; exact h.1
theorem wk_drewN {c : WB} {w : World} {wv ov : Value} {k : Nat} {G : Nat → Nat → Nat} {s : St} (h : WK c w wv ov k G s) (n : Nat) : WK c (w.drewN n) wv ov k G s := h.below (below_drewN (Below.refl _ _) n)
theorem GInv.splitNe {g : Gr} {s : St} (h : GInv g none s) {x : Nat} : ∀ pre rest, s.op = pre ++ x :: rest → ∀ u ∈ pre, u ≠ x := by
  intro pre rest ho u hu e
  have hs := h.srt
  rw [ho, List.pairwise_append] at hs
  have := hs.2.2 u hu x (by simp)
  rw [e] at this
  omega
theorem sorted_len {cm : List Nat} {n : Nat} (hn : ∀ x, el cm x ≤ n) : ∀ {l : List Nat}, (l.Pairwise fun a b => el cm b < el cm a) → l.length ≤ n + 1 := by
  have key : ∀ (l : List Nat) (m : Nat), (l.Pairwise fun a b => el cm b < el cm a) → (∀ x ∈ l, el cm x ≤ m) → l.length ≤ m + 1 := by
    intro l
    induction l with
    | nil => intro m _ _; simp
    | cons a l ih =>
      intro m hp hm
      rw [List.pairwise_cons] at hp
      cases m with
      | zero =>
        cases l with
        | nil => simp
        | cons b l => have := hp.1 b (by simp); have := hm a (by simp); omega
      | succ m =>
        have := ih m hp.2 fun x hx => by have := hp.1 x hx; have := hm a (by simp); omega
        simp; omega
  intro l hp
  exact key l n hp fun x _ => hn x
theorem GInv.sizes {g : Gr} {s : St} (h : GInv g none s) : s.op.length ≤ g.length + 1 ∧ s.way.length ≤ g.length + 1 ∧ s.cnt ≤ g.length := by
  refine ⟨sorted_len h.nle h.srt, ?_, by have := h.cnt; omega⟩
  have := sorted_len h.nle h.wsr
  simpa using this

set_option maxRecDepth 100000 in
set_option maxHeartbeats 8000000 in
theorem from_any {c : WB} {w : World} {wv ov : Value} {k : Nat} {G : Nat → Nat → Nat} {s : St} {ag : Option Addr} {cg : Nat} {g : Gr} (h : WK c w wv ov k G s) (hgv : c.gv = .slice ag c.n cg) (hg : GI c.base w ag c.n g) (hinv : GInv g none s) (hw : s.way = []) (hkn : k ≤ s.cnt) (x : Nat) (hx : x < c.n) (h0 : el s.cm x = 0) (hn : c.n ≤ 10000) :
    Calls Try.prog 23 #[.pointer (some ⟨c.b, 0, none⟩), .int .i64 (x : Int)] w fun e w' => e = .returned (.tuple #[]) ∧ Below c.base w w' ∧ ∃ wv' ov' k' G' s' nx, WK c w' wv' ov' k' G' s' ∧ FInv g x s s' G' k' nx ∧ s'.way = [] := by
  have hgl := hg.1
  have hsz := hinv.sizes
  rw [hgl] at hsz
  have HEN := Lib.hid (enter_any h (by rw [hinv.lc, hgl]) (by rw [hinv.le, hgl]) x hx (by omega) (by omega) (by omega))
  have HF0 := Lib.hid (FInv.start (k := k) (G := G) hinv hw hkn (by rw [hgl]; exact hx) h0)
  have HGI := Lib.hid hg
  have HGL := Lib.hid hgl
  have hbm : c.base ≤ w.heap.size := by have := h.lo.1; have := h.box.lt; omega
  obtain ⟨s1, hs1⟩ : ∃ s1, s.enter x = s1 := ⟨_, rfl⟩
  rw [hs1] at HEN HF0
  clear h hg hinv hw hkn h0 hsz hgl hs1
  go_enter Try.func23, Try.ntmps23
  go_wp2_with (go_at_call 28; (with_reducible refine (HEN.out).mono ?_); rintro e w2 ⟨rfl, hb2, wv2, ov2, hk2⟩; have HB2 := Lib.hid hb2; have HK2 := Lib.hid hk2; clear hb2 hk2 HEN)
  obtain ⟨M0, hM0⟩ : ∃ M0, mu g s1 = M0 := ⟨_, rfl⟩
  go_loopg [1, 4] (M0) (fun gn xv nv wr => ∃ (s' : St) (k' : Nat) (G' : Nat → Nat → Nat) (wv' ov' : Value) (nx : Nat) (X : Int), gn = mu g s' ∧ xv = .int .i64 X ∧ nv = .int .i64 (nx : Int) ∧ Hid (FInv g x s s' G' k' nx) ∧ Hid (WK c wr wv' ov' k' G' s') ∧ Hid (Below c.base w wr))
  case atStart => exact ⟨s1, k, G, wv2, ov2, 0, x, hM0.symm, rfl, rfl, HF0, HK2, HB2⟩
  case round =>
    clear HF0 HK2 HB2 hM0
    obtain ⟨s', k', G', wv', ov', nx, X, hgn, rfl, rfl, HF, HK, HB⟩ := hrel
    have hk := HK.out
    have hbl := hk.box.lt
    rcases (show s'.way = [] ∨ ∃ x1 p r, s'.way = (x1, p) :: r from by cases e : s'.way with | nil => exact .inl rfl | cons a b => exact .inr ⟨a.1, a.2, b, rfl⟩) with hr0 | ⟨x1, p, r, hr0⟩
    · have hwy := hk.way
      rw [hr0] at hwy
      obtain ⟨av, cv, rfl⟩ := own_shape hwy
      obtain ⟨q0, q1, q2, q3, q4, q5, q6, q7⟩ := box8 hk.box
      have HR0 := Lib.hid hr0
      clear hwy hr0 hk
      go_wp2_with fail
      refine bodyPost_end (results_none rfl _ _ _) rfl ?_
      exact ⟨rfl, HB.out, _, _, _, _, _, _, HK.out, HF.out, HR0.out⟩
    · have hnx : p = nx := HF.out.nx (x1, p) r hr0
      subst hnx
      have hwy := hk.way
      unfold St.W at hwy
      obtain ⟨m, hm⟩ : ∃ m, r.length = m := ⟨_, rfl⟩
      rw [hr0, List.length_cons, hm, List.map_cons, List.reverse_cons] at hwy
      obtain ⟨gg, cap, rfl, hg0, hg1, hcap, hcl⟩ := own_last hwy (by simpa using hm)
      obtain ⟨q0, q1, q2, q3, q4, q5, q6, q7⟩ := box8 hk.box
      have hmz : m ≤ 10001 := by have := HF.out.inv.sizes.2.1; rw [hr0, List.length_cons, hm, HGL.out] at this; omega
      have T1 : ∀ W, Sem.run Try.prog (Instr.indexAt 26 (.slice (some ⟨gg, 0, none⟩) (m + 1) cap) (.int .i64 (m : Int))) W = .ok (.pointer (some ⟨gg, m, none⟩)) W := fun W => by
        go_simp
        intro h; omega
      have HR0 := Lib.hid hr0
      clear hwy hm hr0 hk
      go_wp2_with fail
      go_quiet (fail)
      obtain ⟨w1, hw1⟩ : ∃ w1, wr.drewN nq = w1 := ⟨_, rfl⟩
      have hk := wk_drewN HK.out nq
      have hb := below_drewN HB.out nq
      rw [hw1] at hk hb ⊢
      clear hw1 q0 q1 q2 q3 q4 q5 q6 q7 hcl hg1 T1 hbl
      have hbl := hk.box.lt
      obtain ⟨q0, q1, q2, q3, q4, q5, q6, q7⟩ := box8 hk.box
      have hx1 : x1 < c.n := by have := HF.out.inv.wLt (q := (x1, p)) (by rw [HR0.out]; simp); rw [HGL.out] at this; exact this
      have hgi := HGI.out.below hb (Nat.le_refl _)
      obtain ⟨gb, off, ai, ci, rfl, hgb, hcr, hrow⟩ := hgi.row hx1
      have hbm1 : c.base ≤ w1.heap.size := Nat.le_trans hbm hb.size
      obtain ⟨L, hL⟩ : ∃ L, (rowG g x1).length = L := ⟨_, rfl⟩
      have hLs : L ≤ 1000000 := by rw [← hL]; exact hgi.2.2.1 x1
      rw [hL] at hcr hrow
      rw [hgv] at q0
      have hpL : p ≤ L := by
        have := (HF.out.inv.ing (x1, p) (by rw [HR0.out]; simp)).1
        rw [← hL]; exact this
      have T2 : ∀ W, Sem.run Try.prog (Instr.indexAt 23 (.slice (some ⟨gb, off, none⟩) c.n cg) (.int .i64 (x1 : Int))) W = .ok (.pointer (some ⟨gb, off + x1, none⟩)) W := fun W => by go_simp
      have HK1 := Lib.hid hk
      have HB1 := Lib.hid hb
      have HLL := Lib.hid hL
      have hlc := HF.out.inv.lc
      have hle := HF.out.inv.le
      have hlf := HF.out.inv.lf
      rw [HGL.out] at hlc hle hlf
      have hsz := HF.out.inv.sizes
      rw [HGL.out] at hsz
      have hkl := HF.out.kle
      by_cases hpe : p = L
      · obtain ⟨S1, hS1⟩ := HF.out.inv.left HR0.out
        have hS1' : LeftSt s' c.n x1 r S1 := by rw [← HGL.out]; exact hS1
        have HLV := Lib.hid (leave_any HK1.out hgv (by omega) hlc hle hlf HR0.out hx1 (fun q hq => by have := HF.out.inv.wLt (q := q) (by rw [HR0.out]; exact List.mem_cons_of_mem _ hq); rw [HGL.out] at this; exact this) hS1' HF.out.inv.splitNe (fun u hu => by have := HF.out.inv.opLt hu; rw [HGL.out] at this; exact this) (by omega) (by omega) (by omega) (by have := HF.out.gok; rw [HR0.out] at this; exact this.heads))
        have HFL := Lib.hid (HF.out.leave HR0.out (by rw [hpe, ← hL]) hS1)
        have e0 : ((p : Int) == (L : Int)) = true := by rw [hpe]; simp
        clear hS1 hS1' hL hrow hgi hk hb hlc hle hlf hsz hkl hpL q1 q2 q3 q4 q5 q6 q7
        subst hpe
        go_wp2_with (go_at_call 29; (with_reducible refine (HLV.out).mono ?_); rintro e w3 ⟨hb3, ⟨hr, rfl, wv3, ov3, hk3⟩ | ⟨t, q, r', hr, rfl, wv3, ov3, hk3⟩⟩)
        · have HF3 := Lib.hid ((HFL.out.1 hr).1)
          have HM3 := Lib.hid ((HFL.out.1 hr).2)
          have HK3 := Lib.hid hk3
          have HB3 := Lib.hid (HB1.out.trans hb3)
          clear hr hk3 hb3 HFL HLV
          go_wp2_with fail
          go_roundg (mu g S1)
          case measure => have := HM3.out; omega
          case rel => exact ⟨S1, k', G', wv3, ov3, 0, _, rfl, rfl, rfl, HF3, HK3, HB3⟩
        · have HF3 := Lib.hid ((HFL.out.2 t q r' hr).1)
          have HM3 := Lib.hid ((HFL.out.2 t q r' hr).2)
          have HK3 := Lib.hid hk3
          have HB3 := Lib.hid (HB1.out.trans hb3)
          clear hr hk3 hb3 HFL HLV
          go_wp2_with fail
          go_roundg (mu g { S1 with er := S1.er.set t (min (el S1.er t) (el S1.er x1)) })
          case measure => have := HM3.out; omega
          case rel => exact ⟨_, k', _, wv3, ov3, q, _, rfl, rfl, rfl, HF3, HK3, HB3⟩
      · have hplt : p < L := by omega
        have e0 : ((p : Int) == (L : Int)) = false := by simp; omega
        obtain ⟨hrl, hrz⟩ := hrow
        obtain ⟨rb, ro, rfl, hrb1, hrb2, hrc⟩ := hrz.resolve_left (by omega)
        have hcp := hrc p hplt
        obtain ⟨Y, hY⟩ : ∃ Y, (rowG g x1).getD p 0 = Y := ⟨_, rfl⟩
        rw [hY] at hcp
        have hpY : (rowG g x1)[p]? = some Y := by
          rw [List.getElem?_eq_getElem (by rw [hrl]; exact hplt)]
          rw [List.getD_eq_getElem?_getD, List.getElem?_eq_getElem (by rw [hrl]; exact hplt)] at hY
          simpa using hY
        have hrb : rb < w1.heap.size := by omega
        have hgb1 : gb < w1.heap.size := by omega
        have T3 : ∀ W, Sem.run Try.prog (Instr.indexAt 26 (.slice (some ⟨rb, ro, none⟩) L ci) (.int .i64 (p : Int))) W = .ok (.pointer (some ⟨rb, ro + p, none⟩)) W := fun W => by go_simp
        have HPY := Lib.hid hpY
        clear hrc hY hpY hrl hrz hL hgi hb hpe
        by_cases hYn : 0 ≤ Y ∧ Y < c.n
        · obtain ⟨y, rfl⟩ : ∃ y : Nat, Y = y := ⟨Y.toNat, by omega⟩
          have hyn : y < c.n := by omega
          obtain ⟨y1, y2⟩ := hYn
          have HMT := Lib.hid (met_any HK1.out hlc y hyn)
          by_cases hmt : 0 < el s'.cm y
          · have hd : decide (0 < el s'.cm y) = true := decide_eq_true hmt
            rw [hd] at HMT
            have HFL := Lib.hid (HF.out.low HR0.out HPY.out (by rw [HGL.out]; exact hyn) hmt)
            have qe1 := box_el hk.er (i := x1) (by rw [hle]; exact hx1)
            have qe2 := box_el hk.er (i := y) (by rw [hle]; exact hyn)
            have g1 := hk.er.frozen x1
            have hel := hk.er.lt
            obtain ⟨a1, a2, a3, a4, a5, a6, a7, a8, a9, a10⟩ := hk.ap.ne
            obtain ⟨e1, he1⟩ : ∃ v : Nat, el s'.er x1 = v := ⟨_, rfl⟩
            obtain ⟨e2, he2⟩ : ∃ v : Nat, el s'.er y = v := ⟨_, rfl⟩
            rw [he1] at qe1 HFL
            rw [he2] at qe2 HFL
            obtain ⟨M, hM⟩ : ∃ M, min e1 e2 = M := ⟨_, rfl⟩
            have EA : (if e2 < e1 then (e2 : Int) else (e1 : Int)) = (M : Int) := by rw [← hM]; split <;> omega
            rw [hM] at HFL
            have hk3 := hk.st_er x1 M
            have HK3 : Hid (∀ W, W = (w1.setCell ⟨c.eb, x1, none⟩ (.int .i64 (M : Int))).drew → WK c W (.slice (some ⟨gg, 0, none⟩) (m + 1) cap) ov' k' G' { s' with way := (x1, p + 1) :: r, er := s'.er.set x1 M } ∧ Below c.base w W) := by
              rintro W rfl
              have h9 : WK c (w1.setCell ⟨c.eb, x1, none⟩ (.int .i64 (M : Int))) (.slice (some ⟨gg, 0, none⟩) (m + 1) cap) ov' k' G' { s' with way := (x1, p + 1) :: r, er := s'.er.set x1 M } := by
                obtain ⟨b1, b2, b3, b4, b5, b6, b7, b8⟩ := hk3
                refine ⟨b1, ?_, b3, b4, b5, b6, b7, b8⟩
                have e := HR0.out
                unfold St.W at b2 ⊢
                dsimp only at b2 ⊢
                rw [e] at b2
                exact b2
              exact ⟨h9.drew, (HB1.out.setCell (p := ⟨c.eb, x1, none⟩) hk.lo.2.2.2.1 _).drew⟩
            clear hk hk3 hd hmt he1 he2 hM hlc hle hlf hsz hkl HK1
            go_wp2_with (first | (go_at_call 30; (with_reducible refine (there_yes _ _ _ _ _ y1 y2).mono ?_); rintro e w' ⟨rfl, rfl⟩) | (go_at_call 22; (with_reducible refine (HMT.out).mono ?_); rintro e w' ⟨rfl, rfl⟩))
            go_region
            have HK4 := Lib.hid (HK3.out _ rfl).1
            have HB4 := Lib.hid (HK3.out _ rfl).2
            go_wp2_with fail
            go_roundg (mu g { s' with way := (x1, p + 1) :: r, er := s'.er.set x1 M })
            case measure => have := HFL.out.2; omega
            case rel => exact ⟨_, k', G', _, ov', p + 1, _, rfl, rfl, by go_num, Lib.hid HFL.out.1, HK4, HB4⟩
          · have hm0 : el s'.cm y = 0 := by omega
            have hd : decide (0 < el s'.cm y) = false := decide_eq_false hmt
            rw [hd] at HMT
            have HFL := Lib.hid (HF.out.down HR0.out HPY.out (by rw [HGL.out]; exact hyn) hm0)
            obtain ⟨w3, hst, hem, hgr, hsz3⟩ := hk.mp.store (show k' ≤ 10000000 by omega) (x := x1) (y := y) (v := p + 1) (by omega) (by omega) (by omega)
            have hp1 : ((p + 1 : Nat) : Int) = (p : Int) + 1 := by omega
            rw [hp1] at hst
            have h9 : WK c w1 (.slice (some ⟨gg, 0, none⟩) (m + 1) cap) ov' k' G' { s' with way := (x1, p + 1) :: r } := by
              obtain ⟨b1, b2, b3, b4, b5, b6, b7, b8⟩ := hk
              refine ⟨b1, ?_, b3, b4, b5, b6, b7, b8⟩
              have e := HR0.out
              unfold St.W at b2 ⊢
              dsimp only at b2 ⊢
              rw [e] at b2
              exact b2
            have hk3 := h9.st_mp hgr hem
            have hb3 : Below c.base w w3 := HB1.out.grown hgr hbm1 fun q hq => by have := hk.lo.2.1; have e := Option.some.inj hq; omega
            have HEN := Lib.hid (enter_any hk3 (by exact hlc) (by exact hle) y hyn (by have := hsz.2.1; rw [HR0.out] at this; simp at this ⊢; omega) (by show s'.op.length ≤ _; omega) (by show s'.cnt ≤ _; omega))
            have HB3 := Lib.hid hb3
            clear hk h9 hk3 hb3 hem hgr hsz3 hd hmt hm0 hlc hle hlf hsz hkl HK1 hp1
            go_wp2_with (first | (go_at_call 30; (with_reducible refine (there_yes _ _ _ _ _ y1 y2).mono ?_); rintro e w' ⟨rfl, rfl⟩) | (go_at_call 22; (with_reducible refine (HMT.out).mono ?_); rintro e w' ⟨rfl, rfl⟩) | (go_at_call 28; (with_reducible refine (HEN.out).mono ?_); rintro e w4 ⟨rfl, hb4, wv4, ov4, hk4⟩; have HK4 := Lib.hid hk4; have HB4 := Lib.hid (HB3.out.trans hb4); clear hk4 hb4))
            go_roundg (mu g (St.enter { s' with way := (x1, p + 1) :: r } y))
            case measure => have := HFL.out.2; omega
            case rel => exact ⟨_, k' + 1, _, wv4, ov4, 0, _, rfl, rfl, rfl, Lib.hid HFL.out.1, HK4, HB4⟩
        · have HFL := Lib.hid (HF.out.skip HR0.out HPY.out (by rw [HGL.out]; exact hYn))
          have h9 : WK c w1 (.slice (some ⟨gg, 0, none⟩) (m + 1) cap) ov' k' G' { s' with way := (x1, p + 1) :: r } := by
            obtain ⟨b1, b2, b3, b4, b5, b6, b7, b8⟩ := hk
            refine ⟨b1, ?_, b3, b4, b5, b6, b7, b8⟩
            have e := HR0.out
            unfold St.W at b2 ⊢
            dsimp only at b2 ⊢
            rw [e] at b2
            exact b2
          have HK4 := Lib.hid h9
          clear hk h9 hlc hle hlf hsz hkl HK1
          go_wp2_with (first | (go_at_call 30; (with_reducible refine (there_no _ _ _ _ _ hYn).mono ?_); rintro e w' ⟨rfl, rfl⟩))
          go_roundg (mu g { s' with way := (x1, p + 1) :: r })
          case measure => have := HFL.out.2; omega
          case rel => exact ⟨_, k', G', _, ov', p + 1, _, rfl, rfl, by go_num, Lib.hid HFL.out.1, HK4, HB1⟩

end Go.Proofs.Ytdbjmonboecfgaa
