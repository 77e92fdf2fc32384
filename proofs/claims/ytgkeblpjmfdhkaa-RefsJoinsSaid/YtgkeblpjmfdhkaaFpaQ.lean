/- What a text that begins with a Bind is as a program; the statement's example (awake). -/
import Derived.Test.YtgkeblpjmfdhkaaFAQ
import Derived.Test.YtgkeblpjmfdhkaaYlongQ
import Derived.Test.YtgkeblpjmfdhkaaZPQ
import Derived.Test.YtgkeblpjmfdhkaaYSQ
import Derived.Test.YtgkeblpjmfdhkaaZAQ
namespace Go.Proofs.Ytgkeblpjmfdhkaa
open Go.RowKit Go.Maps
set_option linter.unusedVariables false
set_option linter.unusedSimpArgs false

theorem programL_binds (En n : Nat) : ∀ (g : Nat) (p : Pg) (σ : PS), p.binds.length ≤ (programL En n g p σ).1.binds.length
  | 0, p, σ => Nat.le_refl _
  | g + 1, p, σ => by
    rw [programL]
    split
    · exact Nat.le_refl _
    · split
      · exact programL_binds En n g ⟨p.datas ++ [(dataF En n σ).1], p.binds⟩ (dataF En n σ).2
      · exact Nat.le_trans (by simp) (programL_binds En n g ⟨p.datas, p.binds ++ [(topF En n σ).1]⟩ (topF En n σ).2)
theorem first_bind {s : By} {t : Tk} {q : List Tk} (h : lexL s 0 = .ok (t :: q)) (hd : srt t ≠ sW tData) (he : (parseL s).e = 0) : 0 < (parseL s).p.binds.length := by
  unfold parseL at he ⊢
  rw [h] at he ⊢
  show 0 < (parseTs s.length (t :: q)).p.binds.length
  change (parseTs s.length (t :: q)).e = 0 at he
  unfold parseTs at he ⊢
  dsimp only at he ⊢
  split at he
  · cases he
  · rename_i h1
    rw [if_neg h1]
    split at he
    · rename_i h2
      rw [if_pos h2]
      unfold programF
      show 0 < (programL s.length _ (q.length + 1) ⟨[], []⟩ _).1.binds.length
      rw [programL, if_neg (by simp), if_neg (show ¬ (⟨t :: q, false, 0⟩ : PS).sees (sW tData) = true by show ¬ decide (srt t = sW tData) = true; simpa using hd)]
      exact Nat.lt_of_lt_of_le (by simp) (programL_binds _ _ _ ⟨[], [] ++ [_]⟩ _)
    · cases he
/-- "let q = ", an expression's text, ";". -/
def lqT (xs : List Nat) : By := [108, 101, 116, 32, 113, 32, 61, 32] ++ exprT 8 xs ++ [59]
theorem lqT_first (xs : List Nat) (hx : ∀ x ∈ xs, x ≤ 255) : ∃ t q, lexL (lqT xs) 0 = .ok (t :: q) ∧ srt t ≠ sW tData := by
  obtain ⟨ta, xa, a1, a2⟩ := (txt_ep 8 xs hx).1
  have hP : Lp [108, 101, 116, 32, 113, 32, 61, 32] [⟨4, 0, [108, 101, 116], 0⟩, ⟨1, 4, [113], 0⟩, ⟨5, 6, [61], 0⟩] := Lp.of rfl (by decide)
  have hR : Lp [59] [⟨5, 0, [59], 0⟩] := Lp.of rfl (by decide)
  have h := (hP.app a1 (parted_l (c := 32) rfl rfl)).app hR (parted_r rfl)
  exact ⟨_, _, h.lex, by decide⟩
theorem parseA_first (xs : List Nat) (hx : ∀ x ∈ xs, x ≤ 255) (he : (parseA (lqT xs)).e = 0) : 0 < (parseA (lqT xs)).p.binds.length := by
  unfold parseA at he ⊢
  split
  · rename_i h
    rw [if_pos h] at he
    obtain ⟨t, q, h1, h2⟩ := lqT_first xs hx
    exact first_bind h1 h2 he
  · rename_i h
    rw [if_neg h] at he
    cases he
theorem lex_tfA {s : By} {ts : List Tk} (hs : s.length ≤ 65536) (h : lexL s 0 = .ok ts) : TF ts := by
  have h1 := lexL_len h
  have h2 := lexL_fit (by omega) h
  exact ⟨by omega, fun t ht => (h2 t ht).2.2.1⟩
theorem PFit.monoA {N M : Nat} {p : Pg} (h : PFit N p) (hm : N ≤ M) : PFit M p := ⟨h.datas, h.args, h.binds, by have := h.nn; omega, by have := h.nb; omega, by have := h.nd; omega, by have := h.nc; omega⟩
theorem parseA_fit (s : By) : PFit 65536 (parseA s).p := by
  unfold parseA
  split
  · rename_i hs
    unfold parseL
    cases hx : lexL s 0 with
    | inl i => exact PFit.empty _
    | inr ts =>
      have ht := lex_tfA hs hx
      have hl := lexL_len hx
      have h := programF_fit s.length (ts.length + 1) ⟨ts, false, 0⟩ ht
      show PFit 65536 (parseTs s.length ts).p
      unfold parseTs
      dsimp only
      split
      · exact PFit.empty _
      · split
        · exact h.monoA (by show ts.length ≤ _; omega)
        · exact PFit.empty _
  · exact PFit.empty _
theorem sum_mem {l : List Bd} {b : Bd} (h : b ∈ l) : b.body.nn ≤ sumOf bdN l := by
  induction l with
  | nil => simp at h
  | cons x r ih =>
    have e : sumOf bdN (x :: r) = x.body.nn + sumOf bdN r := rfl
    rcases List.mem_cons.1 h with rfl | h
    · omega
    · have := ih h; omega

/-- The first Bind's Body, as its six cells. -/
theorem InC.body {S : Nat → Prop} {w : World} {l : List Bd} {a : Option Addr} {m c : Nat} (h : InC S w (.s l.length 8 (l.flatMap bdC)) (.slice a m c)) {i : Nat} {x : Bd} (hx : l[i]? = some x) :
    ∃ (g off : Nat) (k p n : Int) (s : By) (a1 a2 : Option Addr) (m1 m2 c1 c2 : Nat), a = some ⟨g, off, none⟩ ∧ g < w.heap.size ∧ IsV S w (exC x.body) (.agg #[.int .i64 k, .int .i64 p, .string (strB s), .int .i64 n, .slice a1 m1 c1, .slice a2 m2 c2]) ∧
      w.cell? ⟨g, off + i * 8 + 2, none⟩ = some (.int .i64 k) ∧ w.cell? ⟨g, off + i * 8 + 2 + 1, none⟩ = some (.int .i64 p) ∧ w.cell? ⟨g, off + i * 8 + 2 + 2, none⟩ = some (.string (strB s)) ∧ w.cell? ⟨g, off + i * 8 + 2 + 3, none⟩ = some (.int .i64 n) ∧ w.cell? ⟨g, off + i * 8 + 2 + 4, none⟩ = some (.slice a1 m1 c1) ∧ w.cell? ⟨g, off + i * 8 + 2 + 5, none⟩ = some (.slice a2 m2 c2) := by
  obtain ⟨g, off, us, rfl, hg, hxv, hc⟩ := h.elem bdC_len hx
  obtain ⟨k, p, n, s, a1, a2, m1, m2, c1, c2, hz9, hb⟩ := hxv.bd
  obtain rfl := agg_inj hz9
  refine ⟨g, off, k, p, n, s, a1, a2, m1, m2, c1, c2, rfl, hg, hb, ?_, ?_, ?_, ?_, ?_, ?_⟩
  · have := hc 2 _ rfl; rwa [← Nat.add_assoc] at this
  · have := hc 3 _ rfl; rwa [← Nat.add_assoc, show off + i * 8 + 3 = off + i * 8 + 2 + 1 by omega] at this
  · have := hc 4 _ rfl; rwa [← Nat.add_assoc, show off + i * 8 + 4 = off + i * 8 + 2 + 2 by omega] at this
  · have := hc 5 _ rfl; rwa [← Nat.add_assoc, show off + i * 8 + 5 = off + i * 8 + 2 + 3 by omega] at this
  · have := hc 6 _ rfl; rwa [← Nat.add_assoc, show off + i * 8 + 6 = off + i * 8 + 2 + 4 by omega] at this
  · have := hc 7 _ rfl; rwa [← Nat.add_assoc, show off + i * 8 + 7 = off + i * 8 + 2 + 5 by omega] at this
theorem six_below {w w' : World} {g o : Nat} {v : Value} (hb : Below w.heap.size w w') (hg : g < w.heap.size) (h : w.cell? ⟨g, o, none⟩ = some v) : w'.cell? ⟨g, o, none⟩ = some v := (hb.cell (p := ⟨g, o, none⟩) hg).trans h

def awT : By := [108, 101, 116, 32, 113, 32, 61, 32, 92, 120, 32, 45, 62, 32, 102, 32, 120, 59]
theorem awT_f : (parseL awT).p.binds.map (fun b => freeL b.body) = [[[102]]] := by decide +kernel
theorem awT_A : parseA awT = parseL awT := by unfold parseA; rw [if_pos (by decide)]

set_option maxRecDepth 100000 in
set_option maxHeartbeats 4000000 in
theorem r_awake (w : World) : Calls Try.prog 32 #[] w fun e w' => e = .returned (.bool true) ∧ Below w.heap.size w w' := by
  obtain ⟨O, hO⟩ : ∃ O, parseA awT = O := ⟨_, rfl⟩
  have HY := Lib.hid (fun w => y_ParseA awT w hO)
  rw [show strB awT = ⟨#[108, 101, 116, 32, 113, 32, 61, 32, 92, 120, 32, 45, 62, 32, 102, 32, 120, 59]⟩ from rfl] at HY
  have hf := parseA_fit awT
  have h1 := awT_f
  rw [← awT_A] at h1
  rw [hO] at h1 hf
  obtain ⟨x, hx, hfr⟩ : ∃ x, O.p.binds = [x] ∧ freeL x.body = [[102]] := by
    cases hb : O.p.binds with
    | nil => rw [hb] at h1; simp at h1
    | cons x r =>
      rw [hb] at h1
      cases r with
      | nil => exact ⟨x, rfl, by simpa using h1⟩
      | cons y r => simp at h1
  have hxf := (hf.binds x (by rw [hx]; simp)).2
  have hxn : x.body.nn ≤ 262144 := by have := hf.nn; have := sum_mem (l := O.p.binds) (b := x) (by rw [hx]; simp); omega
  have HX0 : Hid (O.p.binds[0]? = some x) := by show _ = _; rw [hx]; rfl
  obtain ⟨nb, hnb⟩ : ∃ nb, O.p.binds.length = nb := ⟨_, rfl⟩
  have hnb0 : 0 < nb := by rw [← hnb, hx]; simp
  have HNB := Lib.hid hnb
  have HFC := Lib.hid (fun (S : Nat → Prop) (w : World) (u : Value) (hu : IsV S w (exC x.body) u) => f_Free x.body w u hxf hu (by omega))
  rw [hfr] at HFC
  clear h1 hf hO hx hxf hxn hfr hnb
  go_enter Try.func32, Try.ntmps32
  go_wp2_with (first
    | (go_at_call 22; (with_reducible refine (HY.out _).mono ?_); go_loud (rintro e w3 ⟨a, b, rfl, hv3, hb3⟩; obtain ⟨a1, a2, c1, c2, hab, hd3, hi3⟩ := hv3.pgp; simp only [Value.agg.injEq, Array.mk.injEq, List.cons.injEq, and_true] at hab; obtain ⟨rfl, rfl⟩ := hab; have hi4 := hi3.alloc (.cells #[.slice a1 O.p.datas.length c1, .slice a2 O.p.binds.length c2, .int .i64 (O.e : Int), .int .i64 O.at_] 49); obtain ⟨g, off, k, p, n, s, b1, b2, m1, m2, d1, d2, rfl, hg, hbv, q2, q3, q4, q5, q6, q7⟩ := hi4.body HX0.out; simp only [Nat.zero_mul, Nat.add_zero] at q2 q3 q4 q5 q6 q7; rw [HNB.out] at hg q2 q3 q4 q5 q6 q7 hbv ⊢; have HV := Lib.hid hbv; have HB3 := Lib.hid hb3; clear hv3 hd3 hi3 hi4 hbv hb3 HY))
    | (go_at_call 34; (with_reducible refine (HFC.out _ _ _ HV.out).mono ?_); rintro e w4 ⟨a4, c4, rfl, h4, hn4, hb4⟩; obtain ⟨g4, o4, rfl, hg4, r4⟩ := h4.text (i := 0) (x := [102]) rfl; rw [Nat.add_zero, show strB [102] = ⟨#[102]⟩ from rfl] at r4; have HB4 := Lib.hid hb4; clear h4 hb4))
  go_ret
  exact ⟨rfl, (HB3.out.alloc HB3.out.size _).trans (HB4.out.mono (by have := HB3.out.size; simp; omega))⟩

end Go.Proofs.Ytgkeblpjmfdhkaa
