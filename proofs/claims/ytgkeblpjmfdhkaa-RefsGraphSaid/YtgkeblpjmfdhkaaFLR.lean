/- What a text that begins with a Bind is as a program; the statement's example (awake). Lines "let v1 = (v2, \v3 -> v3, v2);" as a program: what refers to what. -/
import Derived.Test.YtgkeblpjmfdhkaaFAR
import Derived.Test.YtgkeblpjmfdhkaaYlongR
import Derived.Test.YtgkeblpjmfdhkaaZPR
import Derived.Test.YtgkeblpjmfdhkaaYSR
import Derived.Test.YtgkeblpjmfdhkaaZAR
import Derived.Test.YtgkeblpjmfdhkaaFGR
namespace Go.Proofs.Ytgkeblpjmfdhkaa
open Go.RowKit Go.Maps
set_option linter.unusedVariables false
set_option linter.unusedSimpArgs false

theorem lex_tfA {s : By} {ts : List Tk} (hs : s.length ≤ 65536) (h : lexL s 0 = .ok ts) : TF ts := by
  have h1 := lexL_len h
  have h2 := lexL_fit (by omega) h
  exact ⟨by omega, fun t ht => (h2 t ht).2.2.1⟩
theorem PFit.monoA {N M : Nat} {p : Pg} (h : PFit N p) (hm : N ≤ M) : PFit M p := ⟨h.datas, h.args, h.binds, by have := h.nn; omega, by have := h.nb; omega, by have := h.nd; omega, by have := h.nc; omega⟩
theorem parseA_fit (s : By) : PFit 65536 (parseA s).p := by
  unfold parseA
  split
  · rename_i hs
    unfold parseL
    cases hx : lexL s 0 with
    | inl i => exact PFit.empty _
    | inr ts =>
      have ht := lex_tfA hs hx
      have hl := lexL_len hx
      have h := programF_fit s.length (ts.length + 1) ⟨ts, false, 0⟩ ht
      show PFit 65536 (parseTs s.length ts).p
      unfold parseTs
      dsimp only
      split
      · exact PFit.empty _
      · split
        · exact h.monoA (by show ts.length ≤ _; omega)
        · exact PFit.empty _
  · exact PFit.empty _
theorem sum_mem {l : List Bd} {b : Bd} (h : b ∈ l) : b.body.nn ≤ sumOf bdN l := by
  induction l with
  | nil => simp at h
  | cons x r ih =>
    have e : sumOf bdN (x :: r) = x.body.nn + sumOf bdN r := rfl
    rcases List.mem_cons.1 h with rfl | h
    · omega
    · have := ih h; omega

/-- The first Bind's Body, as its six cells. -/
theorem InC.body {S : Nat → Prop} {w : World} {l : List Bd} {a : Option Addr} {m c : Nat} (h : InC S w (.s l.length 8 (l.flatMap bdC)) (.slice a m c)) {i : Nat} {x : Bd} (hx : l[i]? = some x) :
    ∃ (g off : Nat) (k p n : Int) (s : By) (a1 a2 : Option Addr) (m1 m2 c1 c2 : Nat), a = some ⟨g, off, none⟩ ∧ g < w.heap.size ∧ IsV S w (exC x.body) (.agg #[.int .i64 k, .int .i64 p, .string (strB s), .int .i64 n, .slice a1 m1 c1, .slice a2 m2 c2]) ∧
      w.cell? ⟨g, off + i * 8 + 2, none⟩ = some (.int .i64 k) ∧ w.cell? ⟨g, off + i * 8 + 2 + 1, none⟩ = some (.int .i64 p) ∧ w.cell? ⟨g, off + i * 8 + 2 + 2, none⟩ = some (.string (strB s)) ∧ w.cell? ⟨g, off + i * 8 + 2 + 3, none⟩ = some (.int .i64 n) ∧ w.cell? ⟨g, off + i * 8 + 2 + 4, none⟩ = some (.slice a1 m1 c1) ∧ w.cell? ⟨g, off + i * 8 + 2 + 5, none⟩ = some (.slice a2 m2 c2) := by
  obtain ⟨g, off, us, rfl, hg, hxv, hc⟩ := h.elem bdC_len hx
  obtain ⟨k, p, n, s, a1, a2, m1, m2, c1, c2, hz9, hb⟩ := hxv.bd
  obtain rfl := agg_inj hz9
  refine ⟨g, off, k, p, n, s, a1, a2, m1, m2, c1, c2, rfl, hg, hb, ?_, ?_, ?_, ?_, ?_, ?_⟩
  · have := hc 2 _ rfl; rwa [← Nat.add_assoc] at this
  · have := hc 3 _ rfl; rwa [← Nat.add_assoc, show off + i * 8 + 3 = off + i * 8 + 2 + 1 by omega] at this
  · have := hc 4 _ rfl; rwa [← Nat.add_assoc, show off + i * 8 + 4 = off + i * 8 + 2 + 2 by omega] at this
  · have := hc 5 _ rfl; rwa [← Nat.add_assoc, show off + i * 8 + 5 = off + i * 8 + 2 + 3 by omega] at this
  · have := hc 6 _ rfl; rwa [← Nat.add_assoc, show off + i * 8 + 6 = off + i * 8 + 2 + 4 by omega] at this
  · have := hc 7 _ rfl; rwa [← Nat.add_assoc, show off + i * 8 + 7 = off + i * 8 + 2 + 5 by omega] at this
def awT : By := [108, 101, 116, 32, 113, 32, 61, 32, 92, 120, 32, 45, 62, 32, 102, 32, 120, 59]
theorem awT_f : (parseL awT).p.binds.map (fun b => freeL b.body) = [[[102]]] := by decide +kernel
theorem awT_A : parseA awT = parseL awT := by unfold parseA; rw [if_pos (by decide)]

set_option maxRecDepth 100000 in
set_option maxHeartbeats 4000000 in
theorem r_awake (w : World) : Calls Try.prog 32 #[] w fun e w' => e = .returned (.bool true) ∧ Below w.heap.size w w' := by
  obtain ⟨O, hO⟩ : ∃ O, parseA awT = O := ⟨_, rfl⟩
  have HY := Lib.hid (fun w => y_ParseA awT w hO)
  rw [show strB awT = ⟨#[108, 101, 116, 32, 113, 32, 61, 32, 92, 120, 32, 45, 62, 32, 102, 32, 120, 59]⟩ from rfl] at HY
  have hf := parseA_fit awT
  have h1 := awT_f
  rw [← awT_A] at h1
  rw [hO] at h1 hf
  obtain ⟨x, hx, hfr⟩ : ∃ x, O.p.binds = [x] ∧ freeL x.body = [[102]] := by
    cases hb : O.p.binds with
    | nil => rw [hb] at h1; simp at h1
    | cons x r =>
      rw [hb] at h1
      cases r with
      | nil => exact ⟨x, rfl, by simpa using h1⟩
      | cons y r => simp at h1
  have hxf := (hf.binds x (by rw [hx]; simp)).2
  have hxn : x.body.nn ≤ 262144 := by have := hf.nn; have := sum_mem (l := O.p.binds) (b := x) (by rw [hx]; simp); omega
  have HX0 : Hid (O.p.binds[0]? = some x) := by show _ = _; rw [hx]; rfl
  obtain ⟨nb, hnb⟩ : ∃ nb, O.p.binds.length = nb := ⟨_, rfl⟩
  have hnb0 : 0 < nb := by rw [← hnb, hx]; simp
  have HNB := Lib.hid hnb
  have HFC := Lib.hid (fun (S : Nat → Prop) (w : World) (u : Value) (hu : IsV S w (exC x.body) u) => f_Free x.body w u hxf hu (by omega))
  rw [hfr] at HFC
  clear h1 hf hO hx hxf hxn hfr hnb
  go_enter Try.func32, Try.ntmps32
  go_wp2_with (first
    | (go_at_call 22; (with_reducible refine (HY.out _).mono ?_); go_loud (rintro e w3 ⟨a, b, rfl, hv3, hb3⟩; obtain ⟨a1, a2, c1, c2, hab, hd3, hi3⟩ := hv3.pgp; simp only [Value.agg.injEq, Array.mk.injEq, List.cons.injEq, and_true] at hab; obtain ⟨rfl, rfl⟩ := hab; have hi4 := hi3.alloc (.cells #[.slice a1 O.p.datas.length c1, .slice a2 O.p.binds.length c2, .int .i64 (O.e : Int), .int .i64 O.at_] 49); obtain ⟨g, off, k, p, n, s, b1, b2, m1, m2, d1, d2, rfl, hg, hbv, q2, q3, q4, q5, q6, q7⟩ := hi4.body HX0.out; simp only [Nat.zero_mul, Nat.add_zero] at q2 q3 q4 q5 q6 q7; rw [HNB.out] at hg q2 q3 q4 q5 q6 q7 hbv ⊢; have HV := Lib.hid hbv; have HB3 := Lib.hid hb3; clear hv3 hd3 hi3 hi4 hbv hb3 HY))
    | (go_at_call 34; (with_reducible refine (HFC.out _ _ _ HV.out).mono ?_); rintro e w4 ⟨a4, c4, rfl, h4, hn4, hb4⟩; obtain ⟨g4, o4, rfl, hg4, r4⟩ := h4.text (i := 0) (x := [102]) rfl; rw [Nat.add_zero, show strB [102] = ⟨#[102]⟩ from rfl] at r4; have HB4 := Lib.hid hb4; clear h4 hb4))
  go_ret
  exact ⟨rfl, (HB3.out.alloc HB3.out.size _).trans (HB4.out.mono (by have := HB3.out.size; simp; omega))⟩

end Go.Proofs.Ytgkeblpjmfdhkaa

namespace Go.Proofs.Ytgkeblpjmfdhkaa
set_option linter.unusedVariables false
set_option linter.unusedSimpArgs false

mutual
theorem Ex.occ_bare : ∀ (x : Ex) (bd : List By), x.bare.occ bd = x.occ bd
  | .mk k p s n kids alts, bd => by
    simp only [Ex.bare, Ex.occ]
    rw [Ex.occs_bare kids bd k s 0, Al.occs_bare alts bd]
theorem Ex.occs_bare : ∀ (l : List Ex) (bd : List By) (k : Int) (s : By) (i : Nat), Ex.occs bd k s i (Ex.bares l) = Ex.occs bd k s i l
  | [], bd, k, s, i => by simp only [Ex.bares, Ex.occs]
  | x :: r, bd, k, s, i => by
    simp only [Ex.bares, Ex.occs]
    rw [Ex.occ_bare x, Ex.occs_bare r]
theorem Al.occs_bare : ∀ (l : List Al) (bd : List By), Al.occs bd (Al.bares l) = Al.occs bd l
  | [], bd => by simp only [Al.bares, Al.occs]
  | .mk p s names b :: r, bd => by
    simp only [Al.bares, Al.bare, Al.occs]
    rw [Ex.occ_bare b, Al.occs_bare r]
end
theorem free_bare (x : Ex) : freeL x.bare = freeL x := by unfold freeL; rw [Ex.occ_bare]
mutual
theorem Ex.bare_deepG : ∀ x : Ex, x.bare.deep = x.deep
  | .mk k p s n kids alts => by simp only [Ex.bare, Ex.deep]; rw [Ex.bares_deepG, Al.bares_deepG]
theorem Ex.bares_deepG : ∀ l : List Ex, Ex.deeps (Ex.bares l) = Ex.deeps l
  | [] => by simp only [Ex.bares]
  | x :: r => by simp only [Ex.bares, Ex.deeps]; rw [Ex.bare_deepG, Ex.bares_deepG]
theorem Al.bares_deepG : ∀ l : List Al, Al.deeps (Al.bares l) = Al.deeps l
  | [] => by simp only [Al.bares]
  | .mk p s names b :: r => by simp only [Al.bares, Al.bare, Al.deeps, Al.deep]; rw [Ex.bare_deepG, Al.bares_deepG]
end

/-- A text is read as an expression whose bare tree is this one. -/
def EPx (N : Nat) (s : By) (x0 : Ex) : Prop := ∃ ts, Lp s ts ∧ 1 ≤ ts.length ∧ ∀ (En n a i : Nat) (r : List Tk), N ≤ n → fol r → ∃ x, exprF En n ⟨ts.map (Tk.mv i) ++ r, false, a⟩ = (x, ⟨r, false, a⟩) ∧ x.bare = x0
def APx (N : Nat) (s : By) (x0 : Ex) : Prop := ∃ ts, Lp s ts ∧ (∃ t r, ts = t :: r ∧ (isLeaf (beg (srt t)) || decide (beg (srt t) = 8)) = true) ∧ ∀ (En n a i : Nat) (r : List Tk), N ≤ n → ∃ x, atomF En (exprF En n) ⟨ts.map (Tk.mv i) ++ r, false, a⟩ = (x, ⟨r, false, a⟩) ∧ x.bare = x0
theorem APx.leaf {s : By} {t : Tk} (hs : Lp s [t]) (ht : isLeaf (beg (srt t)) = true) : APx 0 s (leafE (beg (srt t)) t).bare := by
  refine ⟨_, hs, ⟨t, [], rfl, by rw [ht]; rfl⟩, fun En n a i r hn => ⟨leafE (beg (srt t)) (t.mv i), ?_, ?_⟩⟩
  · unfold atomF
    rw [if_pos (by show isLeaf (beg (srt t)) = true; exact ht)]
    rfl
  · unfold leafE
    split
    · rfl
    · rfl
theorem APx.ep {N : Nat} {s : By} {x0 : Ex} (h : APx N s x0) : EPx (N + 1) s x0 := by
  obtain ⟨ts, h1, ⟨t, q, hts, ht⟩, h2⟩ := h
  refine ⟨ts, h1, by rw [hts]; simp, fun En n a i r hn hr => ?_⟩
  obtain ⟨n', rfl⟩ : ∃ n', n = n' + 1 := ⟨n - 1, by omega⟩
  obtain ⟨x, hx, hb⟩ := h2 En n' a i r (by omega)
  refine ⟨x, ?_, hb⟩
  have hnx : (⟨ts.map (Tk.mv i) ++ r, false, a⟩ : PS).next = srt t := by rw [hts]; rfl
  show exprStep En (exprF En n') _ = _
  unfold exprStep
  rw [hnx]
  have h6 : beg (srt t) ≠ 6 ∧ beg (srt t) ≠ 7 ∧ beg (srt t) ≠ 9 ∧ beg (srt t) ≠ 10 := by
    unfold isLeaf at ht
    refine ⟨?_, ?_, ?_, ?_⟩ <;> (intro e; rw [e] at ht; revert ht; decide)
  rw [if_neg h6.1, if_neg h6.2.1, if_neg h6.2.2.1, if_neg h6.2.2.2]
  unfold appF
  rw [hx]
  dsimp only
  have hf : (⟨r, false, a⟩ : PS).seesAtom = false := hr
  cases hl : r.length with
  | zero => rfl
  | succ k => unfold appL; rw [hf, if_neg (by decide)]
theorem EPx.lam {N : Nat} {P E : By} {b m w : Tk} {x0 : Ex} (hP : Lp P [b, m, w]) (hb : srt b = sS tBack) (hm : srt m = sName) (hw : srt w = sS tArrow) (hp : ∀ r, parted P r) (hE : EPx N E x0) : EPx (N + 1) (P ++ E) (.mk 6 0 m.s 0 [x0] []) := by
  obtain ⟨ts, h1, hl1, h2⟩ := hE
  refine ⟨_, hP.app h1 (hp _), by simp, fun En n a i r hn hr => ?_⟩
  obtain ⟨n', rfl⟩ : ∃ n', n = n' + 1 := ⟨n - 1, by omega⟩
  obtain ⟨x, hx, hb0⟩ := h2 En n' a (P.length + i) r (by omega) hr
  have hmv : (ts.map (Tk.mv P.length)).map (Tk.mv i) = ts.map (Tk.mv (P.length + i)) := by rw [List.map_map]; exact List.map_congr_left fun t _ => Tk.mv_mv _ _ t
  refine ⟨lams (b.mv i).p [m.s] x, ?_, by rw [lams_bare, hb0]; rfl⟩
  have e1 : (⟨([b, m, w] ++ ts.map (Tk.mv P.length)).map (Tk.mv i) ++ r, false, a⟩ : PS) = ⟨b.mv i :: m.mv i :: (([] : List Tk) ++ w.mv i :: (ts.map (Tk.mv (P.length + i)) ++ r)), false, a⟩ := by
    simp only [List.map_append, List.map_cons, List.map_nil, hmv, List.cons_append, List.append_assoc, List.nil_append]
  rw [e1]
  show exprStep En (exprF En n') _ = _
  unfold exprStep
  rw [if_pos (by show beg (srt b) = 6; rw [hb]; decide)]
  unfold lamF
  rw [take_hd (t := b.mv i) hb]
  dsimp only
  rw [take_hd (t := m.mv i) hm]
  dsimp only
  have hnl := names_run (w := w.mv i) (r := ts.map (Tk.mv (P.length + i)) ++ r) (by show srt w ≠ _; rw [hw]; decide) [] (fun t ht => by simp at ht)
  unfold PS.names
  dsimp only
  rw [hnl]
  dsimp only
  rw [take_hd (t := w.mv i) hw]
  dsimp only
  rw [hx]
  rfl
theorem rows_moreE {A : Type} {sep : Srt} {most : Nat} {one : PS → A × PS} {f : Nat} {l : List A} {t : Tk} {q r : List Tk} {a : Nat} {x : A} (hf : (t :: q).length ≤ f) (hm : l.length < most) (h : srt t = sep) (hx : one ⟨q, false, a⟩ = (x, ⟨r, false, a⟩)) :
    ∃ f', f = f' + 1 ∧ rowsL sep most one f l ⟨t :: q, false, a⟩ = rowsL sep most one f' (l ++ [x]) ⟨r, false, a⟩ := by
  obtain ⟨f', rfl⟩ : ∃ f', f = f' + 1 := ⟨f - 1, by simp at hf; omega⟩
  have hs : (⟨t :: q, false, a⟩ : PS).sees sep = true := decide_eq_true h
  have ht : (⟨t :: q, false, a⟩ : PS).tail = ⟨q, false, a⟩ := rfl
  refine ⟨f', rfl, ?_⟩
  rw [rowsL, if_pos ⟨hm, hs⟩, ht, hx]
theorem APx.tri {N : Nat} {P A Q B C R : By} {b c v : Tk} {xa xb xc : Ex} (hP : Lp P [b]) (hb : srt b = sS tLpar) (hp : ∀ r, parted P r) (hA : EPx N A xa) (hQ : Lp Q [c]) (hc : srt c = sS tComma) (hq : ∀ s, parted s Q) (hq2 : ∀ s r, parted (s ++ Q) r) (hB : EPx N B xb) (hC : EPx N C xc) (hR : Lp R [v]) (hv : srt v = sS tRpar) (hr : ∀ s, parted s R) : APx N (P ++ A ++ Q ++ B ++ Q ++ C ++ R) (.mk 8 0 [] 0 [xa, xb, xc] []) := by
  obtain ⟨ta, a1, _, a2⟩ := hA
  obtain ⟨tb, b1, _, b2⟩ := hB
  obtain ⟨tc, c1, _, c2⟩ := hC
  refine ⟨_, (((((hP.app a1 (hp _)).app hQ (hq _)).app b1 (hq2 _ _)).app hQ (hq _)).app c1 (hq2 _ _)).app hR (hr _), ⟨b, _, rfl, by rw [hb]; decide⟩, fun En n a i r hn => ?_⟩
  obtain ⟨z, hz, hzb⟩ := c2 En n a ((P ++ A ++ Q ++ B ++ Q).length + i) ((v.mv (P ++ A ++ Q ++ B ++ Q ++ C).length).mv i :: r) hn (fol_sign hv (by decide))
  obtain ⟨y, hy, hyb⟩ := b2 En n a ((P ++ A ++ Q).length + i) ((c.mv (P ++ A ++ Q ++ B).length).mv i :: (tc.map (Tk.mv ((P ++ A ++ Q ++ B ++ Q).length + i)) ++ ((v.mv (P ++ A ++ Q ++ B ++ Q ++ C).length).mv i :: r))) hn (fol_sign hc (by decide))
  obtain ⟨x, hx, hxb⟩ := a2 En n a (P.length + i) ((c.mv (P ++ A).length).mv i :: (tb.map (Tk.mv ((P ++ A ++ Q).length + i)) ++ ((c.mv (P ++ A ++ Q ++ B).length).mv i :: (tc.map (Tk.mv ((P ++ A ++ Q ++ B ++ Q).length + i)) ++ ((v.mv (P ++ A ++ Q ++ B ++ Q ++ C).length).mv i :: r))))) hn (fol_sign hc (by decide))
  refine ⟨.mk 8 (b.mv i).p [] 0 [x, y, z] [], ?_, by simp only [Ex.bare, Ex.bares, Al.bares, hxb, hyb, hzb]⟩
  simp only [List.map_append, List.map_cons, List.map_nil, mv_two, List.cons_append, List.append_assoc, List.nil_append] at hx hy hz ⊢
  unfold atomF
  rw [if_neg (by show ¬ isLeaf (beg (srt b)) = true; rw [hb]; decide), if_pos (by show beg (srt b) = 8; rw [hb]; decide)]
  unfold tupleF bracketF rowsF
  rw [take_hd (t := b.mv i) hb]
  dsimp only
  rw [hx]
  dsimp only
  obtain ⟨f', hf', hs⟩ := rows_moreE (sep := sS tComma) (most := maxTup) (one := exprF En n) (l := [x]) (Nat.le_refl _) (by show 1 < maxTup; decide) (show srt ((c.mv (P ++ A).length).mv i) = sS tComma from hc) hy
  rw [hs]
  obtain ⟨f2, _, hs2⟩ := rows_moreE (sep := sS tComma) (most := maxTup) (one := exprF En n) (f := f') (l := [x] ++ [y]) (by simp only [List.length_cons, List.length_append] at hf' ⊢; omega) (by show 2 < maxTup; decide) (show srt ((c.mv (P ++ (A ++ (Q ++ B))).length).mv i) = sS tComma from hc) hz
  rw [hs2, rows_end (by show srt v ≠ _; rw [hv]; decide)]
  dsimp only
  rw [take_hd (t := (v.mv _).mv i) hv]
  rfl

/-- A line that is read as a Bind of that name, with that body but for places; it has three signs or more. -/
def LineQ (s nm : By) (x0 : Ex) : Prop := ∃ ts, 3 ≤ ts.length ∧ Lp s ts ∧ (∃ t q, ts = t :: q ∧ srt t ≠ sW tData) ∧ (∀ r, parted s r) ∧ ∀ (En n a i : Nat) (r : List Tk), 3 ≤ n → ∃ b, topF En n ⟨ts.map (Tk.mv i) ++ r, false, a⟩ = (b, ⟨r, false, a⟩) ∧ b.s = nm ∧ b.body.bare = x0
theorem programL_topG {En n f : Nat} {p : Pg} {σ : PS} (h0 : σ.ts ≠ []) (h1 : ¬ σ.sees (sW tData) = true) : programL En n (f + 1) p σ = programL En n f ⟨p.datas, p.binds ++ [(topF En n σ).1]⟩ (topF En n σ).2 := by
  rw [programL, if_neg h0, if_neg h1]
theorem linesQ : ∀ ls : List (By × By × Ex), (∀ l ∈ ls, LineQ l.1 l.2.1 l.2.2) → ∃ ts, ls.length ≤ ts.length ∧ (ls ≠ [] → 3 ≤ ts.length) ∧ Lp (ls.map Prod.fst).flatten ts ∧ (∀ (En n a i g : Nat) (p : Pg), 3 ≤ n → ts.length ≤ g → ∃ bs : List Bd, programL En n g p ⟨ts.map (Tk.mv i), false, a⟩ = (⟨p.datas, p.binds ++ bs⟩, ⟨[], false, a⟩) ∧ bs.map (fun b => (b.s, b.body.bare)) = ls.map Prod.snd)
  | [], _ => ⟨[], Nat.le_refl _, fun h => absurd rfl h, Lp.of rfl (by decide), fun En n a i g p hn hg => ⟨[], by rw [List.map_nil, List.append_nil]; exact programL_end rfl, rfl⟩⟩
  | l :: r, h => by
    obtain ⟨t1, h3c, h1, ⟨t, q, ht, hd⟩, hp, h2⟩ := h l (by simp)
    obtain ⟨t2, hl2, _, h3, h4⟩ := linesQ r (fun x hx => h x (by simp [hx]))
    refine ⟨t1 ++ t2.map (Tk.mv l.1.length), by simp; omega, fun _ => by simp; omega, ?_, fun En n a i g p hn hg => ?_⟩
    · rw [List.map_cons, List.flatten_cons]
      exact h1.app h3 (hp _)
    · rw [List.map_append, mv_two]
      obtain ⟨b, hb, hs, hx⟩ := h2 En n a i (t2.map (Tk.mv (l.1.length + i))) hn
      obtain ⟨g1, rfl⟩ : ∃ g1, g = g1 + 1 := ⟨g - 1, by rw [ht] at hg; simp at hg; omega⟩
      have hg2 : t2.length ≤ g1 := by rw [ht] at hg; simp at hg; omega
      obtain ⟨bs, h5, h6⟩ := h4 En n a (l.1.length + i) g1 ⟨p.datas, p.binds ++ [b]⟩ hn hg2
      refine ⟨b :: bs, ?_, ?_⟩
      · rw [programL_topG (by rw [ht]; simp) (by rw [ht]; show ¬ decide (srt t = sW tData) = true; simpa using hd), hb]
        dsimp only
        rw [h5]
        simp
      · rw [List.map_cons, List.map_cons, h6, hs, hx]
/-- Such lines are a whole program. -/
theorem parseQ (ls : List (By × By × Ex)) (h : ∀ l ∈ ls, LineQ l.1 l.2.1 l.2.2) (hdp : ∀ l ∈ ls, l.2.2.deep ≤ 60) : (parseL (ls.map Prod.fst).flatten).e = 0 ∧ (parseL (ls.map Prod.fst).flatten).p.binds.map (fun b => (b.s, b.body.bare)) = ls.map Prod.snd := by
  by_cases h0 : ls = []
  · subst h0
    have e : (parseL (([] : List (By × By × Ex)).map Prod.fst).flatten).p.binds = [] := List.eq_nil_of_length_eq_zero (by decide +kernel)
    exact ⟨by decide +kernel, by rw [e]; rfl⟩
  · obtain ⟨ts, _, h3c, h1, h2⟩ := linesQ ls h
    have h3c := h3c h0
    obtain ⟨A, hA⟩ : ∃ A, (ls.map Prod.fst).flatten = A := ⟨_, rfl⟩
    rw [hA] at h1 ⊢
    obtain ⟨bs, h3, h4⟩ := h2 A.length (ts.length + 1) 0 0 ts.length ⟨[], []⟩ (by omega) (Nat.le_refl _)
    have hm0 : ts.map (Tk.mv 0) = ts := by
      have : Tk.mv 0 = id := by funext t; cases t; rfl
      rw [this]; simp
    rw [hm0] at h3
    have hF : programF A.length (ts.length + 1) ⟨ts, false, 0⟩ = (⟨[], bs⟩, ⟨[], false, 0⟩) := by
      unfold programF
      rw [h3]; rfl
    have hT : tooDeepL ⟨[], bs⟩ = [] := by
      unfold tooDeepL
      dsimp only
      rw [List.filter_eq_nil_iff.2]
      · rfl
      · intro b hb
        have hm := List.mem_map_of_mem (f := fun b : Bd => (b.s, b.body.bare)) hb
        rw [h4] at hm
        obtain ⟨l, hl, he⟩ := List.mem_map.1 hm
        have := hdp l hl
        rw [show l.2.2 = b.body.bare from congrArg Prod.snd he, Ex.bare_deepG] at this
        simpa using this
    have hP : parseL A = ⟨⟨[], bs⟩, 0, 0⟩ := by
      unfold parseL
      rw [h1.lex]
      show parseTs A.length ts = _
      unfold parseTs
      dsimp only
      rw [hF]
      dsimp only
      rw [if_neg (by decide), if_pos hT]
    rw [hP]
    exact ⟨rfl, h4⟩

def nv (d : Nat) : By := [118, UInt8.ofNat (48 + d)]
theorem lp_nv (d : Nat) (hd : d < 10) : Lp (nv d) [⟨1, 0, nv d, 0⟩] := by
  have h : d = 0 ∨ d = 1 ∨ d = 2 ∨ d = 3 ∨ d = 4 ∨ d = 5 ∨ d = 6 ∨ d = 7 ∨ d = 8 ∨ d = 9 := by omega
  rcases h with rfl | rfl | rfl | rfl | rfl | rfl | rfl | rfl | rfl | rfl <;> exact Lp.of rfl (by decide)
theorem lp_let (d : Nat) (hd : d < 10) : Lp ([108, 101, 116, 32] ++ nv d ++ [32, 61, 32]) [⟨4, 0, [108, 101, 116], 0⟩, ⟨1, 4, nv d, 0⟩, ⟨5, 7, [61], 0⟩] := by
  have h : d = 0 ∨ d = 1 ∨ d = 2 ∨ d = 3 ∨ d = 4 ∨ d = 5 ∨ d = 6 ∨ d = 7 ∨ d = 8 ∨ d = 9 := by omega
  rcases h with rfl | rfl | rfl | rfl | rfl | rfl | rfl | rfl | rfl | rfl <;> exact Lp.of rfl (by decide)
theorem lp_back (d : Nat) (hd : d < 10) : Lp ([92] ++ nv d ++ [32, 45, 62, 32]) [⟨5, 0, [92], 0⟩, ⟨1, 1, nv d, 0⟩, ⟨5, 4, [45, 62], 0⟩] := by
  have h : d = 0 ∨ d = 1 ∨ d = 2 ∨ d = 3 ∨ d = 4 ∨ d = 5 ∨ d = 6 ∨ d = 7 ∨ d = 8 ∨ d = 9 := by omega
  rcases h with rfl | rfl | rfl | rfl | rfl | rfl | rfl | rfl | rfl | rfl <;> exact Lp.of rfl (by decide)
def varE (d : Nat) : Ex := .mk 1 0 (nv d) 0 [] []
def lineE (a b : Nat) : Ex := .mk 8 0 [] 0 [varE a, .mk 6 0 (nv b) 0 [varE b] [], varE a] []
def lineT (i a b : Nat) : By := [108, 101, 116, 32] ++ nv i ++ [32, 61, 32] ++ ([40] ++ nv a ++ [44, 32] ++ ([92] ++ nv b ++ [32, 45, 62, 32] ++ nv b) ++ [44, 32] ++ nv a ++ [41]) ++ [59]
theorem apx_nv (d : Nat) (hd : d < 10) : APx 0 (nv d) (varE d) := by
  have := APx.leaf (lp_nv d hd) (show isLeaf (beg sName) = true by decide)
  exact this
theorem line_exp (a b : Nat) (ha : a < 10) (hb : b < 10) : APx 2 ([40] ++ nv a ++ [44, 32] ++ ([92] ++ nv b ++ [32, 45, 62, 32] ++ nv b) ++ [44, 32] ++ nv a ++ [41]) (lineE a b) := by
  have hA : EPx 1 (nv a) (varE a) := (apx_nv a ha).ep
  have hB : EPx 2 ([92] ++ nv b ++ [32, 45, 62, 32] ++ nv b) (.mk 6 0 (nv b) 0 [varE b] []) := EPx.lam (m := ⟨1, 1, nv b, 0⟩) (lp_back b hb) rfl rfl rfl (fun r => parted_end _ _ _ (c := 32) rfl rfl) ((apx_nv b hb).ep)
  have hA2 : EPx 2 (nv a) (varE a) := by
    obtain ⟨ts, h1, h2, h3⟩ := hA
    exact ⟨ts, h1, h2, fun En n a i r hn hr => h3 En n a i r (by omega) hr⟩
  exact APx.tri (b := ⟨5, 0, [40], 0⟩) (c := ⟨5, 0, [44], 0⟩) (v := ⟨5, 0, [41], 0⟩) (Lp.of rfl (by decide)) rfl (fun r => parted_l (c := 40) rfl rfl) hA2 (Lp.of rfl (by decide)) rfl (fun s => parted_r rfl) (fun s r => parted_end _ _ _ (c := 32) rfl rfl) hB hA2 (Lp.of rfl (by decide)) rfl (fun s => parted_r rfl)
theorem line_q (i a b : Nat) (hi : i < 10) (ha : a < 10) (hb : b < 10) : LineQ (lineT i a b) (nv i) (lineE a b) := by
  obtain ⟨ta, a1, _, a2⟩ : EPx 3 ([40] ++ nv a ++ [44, 32] ++ ([92] ++ nv b ++ [32, 45, 62, 32] ++ nv b) ++ [44, 32] ++ nv a ++ [41]) (lineE a b) := (line_exp a b ha hb).ep
  obtain ⟨A, hA⟩ : ∃ A, [40] ++ nv a ++ [44, 32] ++ ([92] ++ nv b ++ [32, 45, 62, 32] ++ nv b) ++ [44, 32] ++ nv a ++ [41] = A := ⟨_, rfl⟩
  unfold lineT
  rw [hA] at a1 ⊢
  have hP := lp_let i hi
  have hR : Lp [59] [⟨5, 0, [59], 0⟩] := Lp.of rfl (by decide)
  have hp : ∀ r, parted ([108, 101, 116, 32] ++ nv i ++ [32, 61, 32]) r := fun r => parted_end _ _ _ (c := 32) rfl rfl
  refine ⟨_, by simp, (hP.app a1 (hp _)).app hR (parted_r rfl), ⟨⟨4, 0, [108, 101, 116], 0⟩, _, rfl, by decide⟩, fun r => parted_end _ _ _ (c := 59) rfl rfl, fun En n a i' r hn => ?_⟩
  obtain ⟨P, hPe⟩ : ∃ P, [108, 101, 116, 32] ++ nv i ++ [32, 61, 32] = P := ⟨_, rfl⟩
  rw [hPe]
  obtain ⟨x, hx, hxb⟩ := a2 En n a (P.length + i') (((⟨5, 0, [59], 0⟩ : Tk).mv (P ++ A).length).mv i' :: r) hn (fol_sign (show srt _ = sS tSemi from rfl) (by decide))
  refine ⟨⟨nv i, ((⟨1, 4, nv i, 0⟩ : Tk).mv i').p, x⟩, ?_, rfl, hxb⟩
  have hnl := names_run (w := (⟨5, 7, [61], 0⟩ : Tk).mv i') (r := ta.map (Tk.mv (P.length + i')) ++ (((⟨5, 0, [59], 0⟩ : Tk).mv (P ++ A).length).mv i' :: r)) (by show sS tEq ≠ sName; decide) [] (fun t ht => by simp at ht)
  simp only [List.map_append, List.map_cons, List.map_nil, mv_two, List.cons_append, List.append_assoc, List.nil_append] at hx hnl ⊢
  unfold topF
  rw [take_hd (s := sW tLet) (t := (⟨4, 0, [108, 101, 116], 0⟩ : Tk).mv i') rfl]
  dsimp only
  unfold bindF
  rw [take_hd (s := sName) (t := (⟨1, 4, nv i, 0⟩ : Tk).mv i') rfl]
  dsimp only
  unfold PS.names
  dsimp only
  rw [hnl]
  dsimp only
  rw [take_hd (s := sS tEq) (t := (⟨5, 7, [61], 0⟩ : Tk).mv i') rfl]
  dsimp only
  rw [hx]
  dsimp only
  rw [take_hd (s := sS tSemi) (t := ((⟨5, 0, [59], 0⟩ : Tk).mv (P ++ A).length).mv i') rfl]
  rfl
theorem free_line (a b : Nat) : freeL (lineE a b) = [nv a] := by
  unfold freeL lineE varE
  simp [Ex.occ, Ex.occs, Al.occs, bindsIn, addAll]

end Go.Proofs.Ytgkeblpjmfdhkaa
