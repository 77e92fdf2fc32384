/- Package scc: close. -/
import Derived.Test.YtdbjmonboecfgaaGwl
import Derived.RegionTactic
import Derived.BigRegion
import Derived.Deep.LoopGhost
namespace Go.Proofs.Ytdbjmonboecfgaa
open Go.RowKit Go.Maps
set_option linter.unusedVariables false
set_option linter.unusedSimpArgs false

/-- The last of a row, in memory. -/
theorem own_last {w : World} {base e n : Nat} {v : Value} {p : List Nat} {u : Nat} (h : w.ownsRow base e 1 v (n + 1) (intsOf (p ++ [u]))) (hl : p.length = n) : ∃ g cap, v = .slice (some ⟨g, 0, none⟩) (n + 1) cap ∧ base ≤ g ∧ g < w.heap.size ∧ n + 1 ≤ cap ∧ w.cell? ⟨g, n, none⟩ = some (.int .i64 (u : Int)) := by
  obtain ⟨h1, ⟨h2, h3⟩ | ⟨g, cap, cur, rfl, hb, hg, hn, hcap, hsz, ht⟩⟩ := h
  · omega
  · have hc := World.ownsRow.cells (w := w) (base := base) (e := e) (size := 1) (v := .slice (some ⟨g, 0, none⟩) (n + 1) cap) (n := n + 1) (xs := intsOf (p ++ [u])) ⟨h1, .inr ⟨g, cap, cur, rfl, hb, hg, hn, hcap, hsz, ht⟩⟩ rfl n (.int .i64 (u : Int)) (by simp [intsOf, ← hl])
    rw [Addr.add_lit] at hc
    exact ⟨g, cap, rfl, hb, (Array.getElem?_eq_some_iff.1 hg).1, hn, by simpa using hc⟩

set_option maxRecDepth 100000 in
set_option maxHeartbeats 4000000 in
theorem close_any {c : WB} {w : World} {wv ov : Value} {k : Nat} {G : Nat → Nat → Nat} {s : St} {ag : Option Addr} {cg : Nat} (h : WK c w wv ov k G s) (hgv : c.gv = .slice ag c.n cg) (hn : c.n ≤ 1000000) (hl : s.er.length = c.n) (hl2 : s.fs.length = c.n) (x : Nat) {pre rest : List Nat} (ho : s.op = pre ++ x :: rest) (hne : ∀ u ∈ pre, u ≠ x) (hop : ∀ u ∈ s.op, u < c.n) (hsm : s.op.length ≤ 1000000) :
    Calls Try.prog 33 #[.pointer (some ⟨c.b, 0, none⟩), .int .i64 (x : Int)] w fun e w' => e = .returned (.tuple #[]) ∧ Below c.base w w' ∧ ∃ ov', WK c w' wv ov' k G { s with op := rest, er := setAll s.er (pre ++ [x]) (c.n + 1), fs := setAll s.fs (pre ++ [x]) x } := by
  obtain ⟨PX, hPX⟩ : ∃ PX, pre ++ [x] = PX := ⟨_, rfl⟩
  have ho2 : s.op = PX ++ rest := by rw [← hPX, ho]; simp
  have HPX := Lib.hid hPX
  have HNE := Lib.hid hne
  have HOP := Lib.hid hop
  have HO := Lib.hid ho2
  have HL := Lib.hid hl
  have HL2 := Lib.hid hl2
  have HSM := Lib.hid hsm
  have h0 : WK c w wv ov k G { s with op := PX ++ rest, er := setAll s.er [] (c.n + 1), fs := setAll s.fs [] x } := by rw [← ho2]; exact h
  have H0 := Lib.hid h0
  have hlt : PX.length ≤ PX.length := Nat.le_refl _
  have HY0 : Hid (PX = [] ↔ (-1 : Int) = (x : Int)) := ⟨fun e => by rw [← hPX] at e; simp at e, fun e => by omega⟩
  rw [hPX]
  obtain ⟨L, hL⟩ : ∃ L, PX.length = L := ⟨_, rfl⟩
  have HLL := Lib.hid hL
  clear h h0 ho ho2 hne hop hl hl2 hsm hPX hlt hL
  go_enter Try.func33, Try.ntmps33
  go_wp2_with fail
  go_loopg [4] (L) (fun gn yv wr => ∃ (P Q : List Nat) (Y : Int) (ov' : Value), gn = Q.length ∧ yv = .int .i64 Y ∧ Hid (P ++ Q = PX) ∧ Hid (Q = [] ↔ Y = (x : Int)) ∧ Hid (WK c wr wv ov' k G { s with op := Q ++ rest, er := setAll s.er P (c.n + 1), fs := setAll s.fs P x }) ∧ Hid (Below c.base w wr))
  case atStart => exact ⟨[], PX, -1, ov, HLL.out.symm, rfl, Lib.hid rfl, HY0, H0, Lib.hid (Below.refl _ _)⟩
  case round =>
    clear H0 HY0
    obtain ⟨P, Q, Y, ov', hgn, rfl, HPQ, HYQ, HK, HB⟩ := hrel
    cases Q with
    | nil =>
      have hY := HYQ.out.1 rfl
      subst hY
      have HP : Hid (P = PX) := by have := HPQ.out; show P = PX; simpa using this
      go_wp2_with fail
      refine bodyPost_end (results_none rfl _ _ _) rfl ?_
      rw [HP.out] at HK
      exact ⟨rfl, HB.out, ov', by simpa using HK.out⟩
    | cons u Q =>
      have hYx : Y ≠ (x : Int) := fun e => by have := HYQ.out.2 e; cases this
      have e0 : (Y == (x : Int)) = false := by simp [hYx]
      have hk := HK.out
      have hway := hk.op
      dsimp only at hway
      obtain ⟨m, hm⟩ : ∃ m, (Q ++ rest).length = m := ⟨_, rfl⟩
      rw [List.cons_append, List.length_cons, hm, List.reverse_cons] at hway
      obtain ⟨g, cap, rfl, hg0, hg1, hcap, hcl⟩ := own_last hway (by simp at hm ⊢; omega)
      have hmem : u ∈ s.op := by rw [HO.out, ← HPQ.out]; simp
      have hun := HOP.out u hmem
      have hmz : m ≤ 1000000 := by
        have h1 := HSM.out
        rw [HO.out, ← HPQ.out] at h1
        simp at h1 hm
        omega
      have hPe : setAll s.er P (c.n + 1) = setAll s.er P (c.n + 1) := rfl
      have HK2 : Hid (∀ W : World, W = (((wr.setCell ⟨c.b, 3, none⟩ (.slice (some ⟨g, 0, none⟩) m cap)).setCell ⟨c.fb, u, none⟩ (.int .i64 (x : Int))).setCell ⟨c.eb, u, none⟩ (.int .i64 ((c.n : Int) + 1))).drew → WK c W wv (.slice (some ⟨g, 0, none⟩) m cap) k G { s with op := Q ++ rest, er := setAll s.er (P ++ [u]) (c.n + 1), fs := setAll s.fs (P ++ [u]) x } ∧ Below c.base w W) := by
        rintro W rfl
        have hk2 := ((hk.st_op rfl (q := u) (r := Q ++ rest) rfl).st_fs u x).st_er u (c.n + 1)
        rw [setAll_snoc, setAll_snoc]
        have hlo := hk.lo
        exact ⟨hk2.drew, (((HB.out.setCell (p := ⟨c.b, 3, none⟩) hlo.1 _).setCell (p := ⟨c.fb, u, none⟩) hlo.2.2.2.2 _).setCell (p := ⟨c.eb, u, none⟩) hlo.2.2.2.1 _).drew⟩
      have HPQ2 : Hid ((P ++ [u]) ++ Q = PX) := by have := HPQ.out; show _ = _; rw [← this]; simp
      have HYQ2 : Hid (Q = [] ↔ (u : Int) = (x : Int)) := by
        have h1 := HPQ.out
        rw [← HPX.out] at h1
        constructor
        · rintro rfl
          have := List.append_inj' h1 rfl
          have h3 := this.2
          simp at h3
          omega
        · intro e
          have e : u = x := by omega
          subst e
          rcases List.eq_nil_or_concat Q with e2 | ⟨Q', z, e2⟩
          · exact e2
          · exfalso
            rw [e2] at h1
            have h2 : (P ++ u :: Q') ++ [z] = pre ++ [u] := by simpa using h1
            have h3 := (List.append_inj' h2 rfl).1
            exact HNE.out u (by rw [← h3]; simp) rfl
      obtain ⟨q0, q1, q2, q3, q4, q5, q6, q7⟩ := box8 hk.box
      have f3 := hk.box.frozen 3
      have g1 := hk.fs.frozen u
      have g2 := hk.er.frozen u
      have qf := box_el hk.fs (i := u) (by show u < (setAll _ _ _).length; rw [setAll_length, HL2.out]; exact hun)
      have qe := box_el hk.er (i := u) (by show u < (setAll _ _ _).length; rw [setAll_length, HL.out]; exact hun)
      have hfl := hk.fs.lt
      have hel := hk.er.lt
      have hbl := hk.box.lt
      have hgb : g ≠ c.b := (hk.wne (q := c.b) (by simp)).2 g rfl
      obtain ⟨a1, a2, a3, a4, a5, a6, a7, a8, a9, a10⟩ := hk.ap.ne
      obtain ⟨v1, hv1⟩ : ∃ v : Nat, el (setAll s.fs P x) u = v := ⟨_, rfl⟩
      obtain ⟨v2, hv2⟩ : ∃ v : Nat, el (setAll s.er P (c.n + 1)) u = v := ⟨_, rfl⟩
      dsimp only at q0 q1 q2 q3 q4 q5 q6 q7 qf qe
      rw [hv1] at qf
      rw [hv2] at qe
      rw [hgv] at q0
      rw [List.length_append] at hm
      clear hway hm hmem hv1 hv2 HK HYQ HPQ hk
      have hsl : ∀ W, Sem.run Try.prog (Instr.slice 26 (.slice (some ⟨g, 0, none⟩) (m + 1) cap) none (some (.int .i64 (m : Int))) none) W = .ok (.slice (some ⟨g, 0, none⟩) m cap) W := fun W => by
        go_simp
        intro h; omega
      have T1 : ∀ W, Sem.run Try.prog (Instr.indexAt 26 (.slice (some ⟨g, 0, none⟩) (m + 1) cap) (.int .i64 (m : Int))) W = .ok (.pointer (some ⟨g, m, none⟩)) W := fun W => by
        go_simp
        intro h; omega
      clear hPe
      go_wp2_with fail
      go_region
      go_wp2_with fail
      go_roundg (Q.length)
      case measure => simp at hgn; omega
      case rel => exact ⟨P ++ [u], Q, u, _, rfl, rfl, HPQ2, HYQ2, Lib.hid (HK2.out _ rfl).1, Lib.hid (HK2.out _ rfl).2⟩

end Go.Proofs.Ytdbjmonboecfgaa
