/- Package scc: leave. -/
import Derived.Test.YtdbjmonboecfgaaGcl
import Derived.Test.YtdbjmonboecfgaaGfm
import Derived.BigQuiet
import Derived.RegionTactic
import Derived.BigRegion
import Derived.Deep.CutRange
import Derived.Deep.DeepCutAuto
namespace Go.Proofs.Ytdbjmonboecfgaa
open Go.RowKit Go.Maps
set_option linter.unusedVariables false
set_option linter.unusedSimpArgs false

theorem below_drewN {B : Nat} {w w' : World} (h : Below B w w') (n : Nat) : Below B w (w'.drewN n) := ⟨h.os, h.tape, h.output, h.size, h.block⟩
set_option maxRecDepth 100000 in
set_option maxHeartbeats 4000000 in
theorem leave_any {c : WB} {w : World} {wv ov : Value} {k : Nat} {G : Nat → Nat → Nat} {s : St} {ag : Option Addr} {cg : Nat} (h : WK c w wv ov k G s) (hgv : c.gv = .slice ag c.n cg) (hn : c.n ≤ 1000000) (hl0 : s.cm.length = c.n) (hl : s.er.length = c.n) (hl2 : s.fs.length = c.n) {x p : Nat} {r : List (Nat × Nat)} (hw : s.way = (x, p) :: r) (hx : x < c.n) (hr : ∀ q ∈ r, q.1 < c.n)
    {S1 : St} (hS : LeftSt s c.n x r S1) (hne : ∀ pre rest, s.op = pre ++ x :: rest → ∀ u ∈ pre, u ≠ x) (hop : ∀ u ∈ s.op, u < c.n) (hsm : s.op.length ≤ 1000000) (hsm2 : s.way.length ≤ 1000000) (hkn : k ≤ 1000000) (hG : ∀ q ∈ r.head?, G q.1 x = q.2) :
    Calls Try.prog 29 #[.pointer (some ⟨c.b, 0, none⟩)] w fun e w' => Below c.base w w' ∧ ((r = [] ∧ e = .returned (.int .i64 0) ∧ ∃ wv' ov', WK c w' wv' ov' k G S1) ∨ ∃ (t q : Nat) (r' : List (Nat × Nat)), r = (t, q) :: r' ∧ e = .returned (.int .i64 (q : Int)) ∧ ∃ wv' ov', WK c w' wv' ov' k (fun a d => if a = t ∧ d = x then 0 else G a d) { S1 with er := S1.er.set t (min (el S1.er t) (el S1.er x)) }) := by
  have hway := h.way
  obtain ⟨m, hm⟩ : ∃ m, r.length = m := ⟨_, rfl⟩
  unfold St.W at hway
  rw [hw, List.length_cons, hm, List.map_cons, List.reverse_cons] at hway
  obtain ⟨g, cap, rfl, hg0, hg1, hcap, hcl⟩ := own_last hway (by simpa using hm)
  have hmz : m ≤ 1000000 := by rw [hw, List.length_cons, hm] at hsm2; omega
  have hk1 := h.st_way rfl (q := (x, p)) (r := r) hw
  obtain ⟨v1, hv1⟩ : ∃ v : Nat, el s.er x = v := ⟨_, rfl⟩
  obtain ⟨v2, hv2⟩ : ∃ v : Nat, el s.cm x = v := ⟨_, rfl⟩
  have qe := box_el h.er (i := x) (by rw [hl]; exact hx)
  have qc := box_el h.cm (i := x) (by rw [hl0]; exact hx)
  rw [hv1] at qe
  rw [hv2] at qc
  have hgb : g ≠ c.b := (h.wne (q := c.b) (by simp)).1 g rfl
  obtain ⟨a1, a2, a3, a4, a5, a6, a7, a8, a9, a10⟩ := h.ap.ne
  obtain ⟨q0, q1, q2, q3, q4, q5, q6, q7⟩ := box8 h.box
  have f1 := h.box.frozen 1
  have hel := h.er.lt
  have hcl2 := h.cm.lt
  have hbl := h.box.lt
  have hlo := h.lo
  have hsl : ∀ W, Sem.run Try.prog (Instr.slice 26 (.slice (some ⟨g, 0, none⟩) (m + 1) cap) none (some (.int .i64 (m : Int))) none) W = .ok (.slice (some ⟨g, 0, none⟩) m cap) W := fun W => by
    go_simp
    intro h; omega
  have T1 : ∀ W, Sem.run Try.prog (Instr.indexAt 26 (.slice (some ⟨g, 0, none⟩) (m + 1) cap) (.int .i64 (m : Int))) W = .ok (.pointer (some ⟨g, m, none⟩)) W := fun W => by
    go_simp
    intro h; omega
  have HK1 : Hid (∀ nq : Nat, WK c ((w.setCell ⟨c.b, 1, none⟩ (.slice (some ⟨g, 0, none⟩) m cap)).drewN nq) (.slice (some ⟨g, 0, none⟩) m cap) ov k G { s with way := r } ∧ Below c.base w ((w.setCell ⟨c.b, 1, none⟩ (.slice (some ⟨g, 0, none⟩) m cap)).drewN nq)) := fun nq =>
    ⟨hk1.below (below_drewN (Below.refl _ _) nq), below_drewN ((Below.refl c.base w).setCell (p := ⟨c.b, 1, none⟩) hlo.1 _) nq⟩
  have HS := Lib.hid hS
  have HV : Hid (el s.er x = v1 ∧ el s.cm x = v2) := ⟨hv1, hv2⟩
  have HNE := Lib.hid hne
  have HOP := Lib.hid hop
  have HSM := Lib.hid hsm
  have HL := Lib.hid hl
  have HL2 := Lib.hid hl2
  have HR := Lib.hid hr
  have HG := Lib.hid hG
  have HM := Lib.hid hm
  have hbm : c.base ≤ w.heap.size := by have := hlo.1; omega
  clear hway hm hsm2 hk1 hv1 hv2 h hS hne hop hsm hl hl2 hr hG hl0 hlo
  go_enter Try.func29, Try.ntmps29
  go_wp2_with fail
  go_quiet (fail)
  go_upto_if 44 with fail
  obtain ⟨w1, hw1⟩ : ∃ w1, (w.setCell ⟨c.b, 1, none⟩ (.slice (some ⟨g, 0, none⟩) m cap)).drewN nq = w1 := ⟨_, rfl⟩
  have hkb := HK1.out nq
  rw [hw1] at hkb ⊢
  have HK := Lib.hid hkb.1
  have HB := Lib.hid hkb.2
  clear hkb hw1 HK1 q0 q1 q2 q3 q4 q5 q6 q7 f1 qe qc hel hcl2 hbl hcl hg1 T1 hsl
  go_cut [] (fun wx => (∃ ov', WK c wx (.slice (some ⟨g, 0, none⟩) m cap) ov' k G S1) ∧ Below c.base w wx)
  case first =>
    by_cases he : v1 = v2
    · subst he
      rcases HS.out with ⟨_, pre, rest, ho, hS1⟩ | ⟨h0, _⟩
      · have HC := Lib.hid (close_any HK.out hgv hn HL.out HL2.out x (pre := pre) (rest := rest) ho (HNE.out pre rest ho) HOP.out HSM.out)
        have HS1 := Lib.hid hS1
        clear hS1
        go_wp2_with (go_at_call 33; (with_reducible refine (HC.out).mono ?_); rintro e w2 ⟨rfl, hb2, ov2, hk2⟩; have HB2 := Lib.hid hb2; have HK2 := Lib.hid hk2; clear hb2 hk2 HC)
        go_meet
        rw [HS1.out]
        exact ⟨⟨ov2, HK2.out⟩, HB.out.trans HB2.out⟩
      · exact absurd (HV.out.1.trans HV.out.2.symm) h0
    · rcases HS.out with ⟨h0, _⟩ | ⟨_, hS1⟩
      · exact absurd (HV.out.1.symm.trans (h0.trans HV.out.2)) he
      · have HS1 := Lib.hid hS1
        clear hS1
        go_wp2_with fail
        go_meet
        rw [HS1.out]
        exact ⟨⟨ov, HK.out⟩, HB.out⟩
  case rest =>
  obtain ⟨⟨ov2, hk2⟩, hb2⟩ := hcut
  have hS := HS.out
  obtain ⟨hsl1, hsw, _, _⟩ := hS.er_len
  rcases (show r = [] ∨ ∃ t q r', r = (t, q) :: r' from by cases r with | nil => exact .inl rfl | cons a b => exact .inr ⟨a.1, a.2, b, rfl⟩) with hr0 | ⟨t, q, r', hr0⟩
  · have hm0 : m = 0 := by have := HM.out; rw [hr0] at this; simpa using this.symm
    have HR0 := Lib.hid hr0
    clear hr0
    subst hm0
    have HK2 := Lib.hid hk2
    have HB2 := Lib.hid hb2
    clear hk2 hb2 hS hsl1 hsw
    go_wp2_with fail
    go_ret
    first | exact ⟨HB2.out, .inl ⟨HR0.out, rfl, _, _, HK2.out⟩⟩ | exact ⟨HB2.out, .inl ⟨HR0.out, _, _, HK2.out⟩⟩
  · obtain ⟨m', hm'⟩ : ∃ m', r'.length = m' := ⟨_, rfl⟩
    have hmm : m = m' + 1 := by rw [← HM.out, hr0, List.length_cons, hm']
    have hwy := hk2.way
    unfold St.W at hwy
    rw [hsw, hr0, List.length_cons, hm', List.map_cons, List.reverse_cons, hmm] at hwy
    have hcl := hwy.cellAt m' (by omega)
    have hcl' : (intsOf ((r'.map Prod.fst).reverse ++ [t]))[m']? = some (.int .i64 (t : Int)) := by simp [intsOf, ← hm']
    rw [hcl'] at hcl
    have hglt : g < wc.heap.size := (ownsRow_lo hwy g rfl).2
    have htn := HR.out (t, q) (by rw [hr0]; simp)
    have hGq : G t x = q := HG.out (t, q) (by rw [hr0]; simp)
    obtain ⟨q0, q1, q2, q3, q4, q5, q6, q7⟩ := box8 hk2.box
    have hel := hk2.er.lt
    have hbl := hk2.box.lt
    have hmbl := hk2.mp.lt
    have hgg : c.base ≤ g := hg0
    have qe1 := box_el hk2.er (i := t) (by rw [hsl1, HL.out]; exact htn)
    have qe2 := box_el hk2.er (i := x) (by rw [hsl1, HL.out]; exact hx)
    have g1 := hk2.er.frozen t
    obtain ⟨e1, he1⟩ : ∃ v : Nat, el S1.er t = v := ⟨_, rfl⟩
    obtain ⟨e2, he2⟩ : ∃ v : Nat, el S1.er x = v := ⟨_, rfl⟩
    rw [he1] at qe1
    rw [he2] at qe2
    obtain ⟨M, hM⟩ : ∃ M, min e1 e2 = M := ⟨_, rfl⟩
    have EA : (if e2 < e1 then (e2 : Int) else (e1 : Int)) = (M : Int) := by rw [← hM]; split <;> omega
    have e0 : ((m : Int) == 0) = false := by simp; omega
    have hm1 : (m : Int) - 1 = (m' : Int) := by omega
    have T1 : ∀ W, Sem.run Try.prog (Instr.indexAt 26 (.slice (some ⟨g, 0, none⟩) m cap) (.int .i64 (m' : Int))) W = .ok (.pointer (some ⟨g, m', none⟩)) W := fun W => by
      go_simp
      intro h; omega
    have hk3 := hk2.st_er t M
    have HK3 : Hid (∀ W, W = (wc.setCell ⟨c.eb, t, none⟩ (.int .i64 (M : Int))).drew → WK c W (.slice (some ⟨g, 0, none⟩) m cap) ov2 k G { S1 with er := S1.er.set t M } ∧ Below c.base w W) := by
      rintro W rfl
      exact ⟨hk3.drew, (hb2.setCell (p := ⟨c.eb, t, none⟩) hk2.lo.2.2.2.1 _).drew⟩
    have HEM : Hid (min (el S1.er t) (el S1.er x) = M) := by show _ = _; rw [he1, he2, hM]
    have HGQ := Lib.hid hGq
    have HS1 := Lib.hid (And.intro hsl1 hsw)
    have hm0 : ¬ m = 0 := by omega
    have HR0 := Lib.hid hr0
    clear hr0
    clear hS hsl1 hsw hm' hmm hwy hcl' hGq he1 he2 hM hk2 hb2 hk3
    go_wp2_with fail
    go_region
    obtain ⟨w2, hw2⟩ : ∃ w2, (wc.setCell ⟨c.eb, t, none⟩ (.int .i64 (M : Int))).drew = w2 := ⟨_, rfl⟩
    have hkb := HK3.out _ hw2.symm
    rw [hw2]
    have HK2 := Lib.hid hkb.1
    have HB2 := Lib.hid hkb.2
    clear hkb hw2 HK3 q0 q1 q2 q3 q4 q5 q6 q7 qe1 qe2 g1 hel hbl hmbl hglt hcl EA T1
    have hbl := HK2.out.box.lt
    go_upto_region 11 with fail
    have hbx := Box.new w2 53 [.int .i64 (t : Int), .int .i64 (x : Int)]
    have hba : Below w2.heap.size w2 (w2.alloc (.cells #[.int .i64 (t : Int), .int .i64 (x : Int)] 53)) := (Below.refl _ _).alloc (Nat.le_refl _) _
    obtain ⟨w3, hw3⟩ : ∃ w3, w2.alloc (.cells #[.int .i64 (t : Int), .int .i64 (x : Int)] 53) = w3 := ⟨_, rfl⟩
    have hbx : Box w3 w2.heap.size 53 [.int .i64 (t : Int), .int .i64 (x : Int)] := by rw [← hw3]; exact hbx
    rw [hw3] at hba ⊢
    obtain ⟨E, hE⟩ : ∃ E, w2.heap.size = E := ⟨_, rfl⟩
    have hk3 := HK2.out.below hba
    have hb3 := HB2.out.trans (hba.mono (show c.base ≤ w2.heap.size from Nat.le_trans hbm HB2.out.size))
    rw [hE] at hbx ⊢
    have HK3 := Lib.hid hk3
    have HB3 := Lib.hid hb3
    have hE3 : E < w3.heap.size := hbx.lt
    have hbl3 := hk3.box.lt
    obtain ⟨q0, q1, q2, q3, q4, q5, q6, q7⟩ := box8 hk3.box
    obtain ⟨p0, p1, _, _⟩ := hbx.two
    have hlk : ∀ j : Nat, Sem.run Try.prog (Instr.lookup 48 (.map (some c.mb)) (.agg #[.int .i64 (t : Int), .int .i64 (x : Int)]) false) (w3.drewN j) = .ok (.int .i64 (q : Int)) (w3.drewN j) := fun j => by
      have := (show EM (w3.drewN j) c.mb k G from hk3.mp.agree rfl).look (x := t) (y := x) (by omega) (by omega)
      rw [HGQ.out] at this
      exact this
    have hlk0 := hlk 0
    have hlk1 := hlk 1
    have HDR : Hid (∀ j : Nat, ∃ w', (∀ ty, Sem.run Try.prog (Builtin.delete_ #[48, 53] ty #[.map (some c.mb), .agg #[.int .i64 (t : Int), .int .i64 (x : Int)]]) (w3.drewN j).drew = .ok (.tuple #[]) w') ∧ WK c w' (.slice (some ⟨g, 0, none⟩) m cap) ov2 k (fun a d => if a = t ∧ d = x then 0 else G a d) { S1 with er := S1.er.set t M } ∧ Below c.base w w') := fun j => by
      have hk4 : WK c (w3.drewN j).drew (.slice (some ⟨g, 0, none⟩) m cap) ov2 k G { S1 with er := S1.er.set t M } := (hk3.below (below_drewN (Below.refl _ _) j)).drew
      obtain ⟨w', h1, h2, h3, h4⟩ := hk4.mp.drop (x := t) (y := x) (by omega) (by omega)
      refine ⟨w', h1, hk4.st_mp h3 h2, Below.trans (below_drewN hb3 j).drew ((Below.refl c.base _).grown h3 (Nat.le_trans hbm (Below.size (below_drewN hb3 j).drew)) fun q' hq => ?_)⟩
      have := hk3.lo.2.1
      have e := Option.some.inj hq
      omega
    clear hw3 hE hk3 hb3 hba hbx HK2 HB2 hbl
    go_quiet (fail)
    obtain ⟨w5, hdel, hk5, hb5⟩ := HDR.out nq
    have HK5 := Lib.hid hk5
    have HB5 := Lib.hid hb5
    obtain ⟨w4, hw4⟩ : ∃ w4, w3.drewN nq = w4 := ⟨_, rfl⟩
    have q2' : w4.cell? ⟨c.b, 2, none⟩ = some (.map (some c.mb)) := by rw [← hw4]; exact q2
    have p0' : w4.cell? ⟨E, 0, none⟩ = some (.int .i64 (t : Int)) := by rw [← hw4]; exact p0
    have p1' : w4.cell? ⟨E, 1, none⟩ = some (.int .i64 (x : Int)) := by rw [← hw4]; exact p1
    have hE4 : E < w4.heap.size := by rw [← hw4]; exact hE3
    have hbl4 : c.b < w4.heap.size := by rw [← hw4]; exact hbl3
    rw [hw4] at hdel ⊢
    clear hw4 HDR hk5 hb5 hlk hlk0 hlk1 q0 q1 q2 q3 q4 q5 q6 q7 p0 p1 hE3 hbl3
    go_wp2_with fail
    go_region
    go_wp2_with fail
    go_ret
    have hk6 := HK5.out
    rw [← HEM.out] at hk6
    exact ⟨HB5.out, .inr ⟨t, q, r', HR0.out, rfl, _, _, hk6⟩⟩

end Go.Proofs.Ytdbjmonboecfgaa
