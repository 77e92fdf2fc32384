/- Mathematics of workers, four: one worker alone: one behind the other, each result as a partition would tell it. No program. Contracts of there, Same, Classes of package part and of the document. Contracts of Unite of package part and of the document. Contract of the document's Unite. The walk of the law PlayOne: it returns true and changes nothing that was there. -/
import Derived.Test.YtpfcpeljfgmjgaaDoorZpt
import Derived.Test.YtpfcpeljfgmjgaaDoorZpb
import Derived.Test.YtpfcpeljfgmjgaaDoorZpa
import Derived.Deep.AppendLies
import Derived.Deep.RegionWith
import Derived.Deep.RegionHeld3
namespace Go.Proofs.YtpfcpeljfgmjgaaDoor
set_option linter.unusedVariables false
set_option linter.unusedSimpArgs false

def lastEn (l : List Ev) : Int := match l.getLast? with
  | none => 0
  | some e => e.en
theorem lastEn_snoc (l : List Ev) (e : Ev) : lastEn (l ++ [e]) = e.en := by unfold lastEn; simp
/-- One worker: each event begins right behind the one ahead of it. -/
structure One (g : Gm) : Prop where
  nx : ∀ (i : Nat) (e : Ev), g.l[i]? = some e → e.bg = lastEn (g.l.take i) + 1
  on : (g.wk 0).on = true → ((g.wk 0).bg : Int) = lastEn g.l + 1
  off : (g.wk 0).on = false → (g.tm : Int) = lastEn g.l
theorem one_adv {pr : List Int} {g : Gm} (O : One g) (hw : 0 < g.ws.length) (he : (g.wk 0).en = true) : One (adv pr g 0) := by
  have hon : (g.bg 0).on = true := (beg_rest he (g.tm + 1)).2
  have hbg : ((g.bg 0).bg : Int) = lastEn g.l + 1 := by
    unfold Gm.bg Wk.beg
    by_cases h : (g.wk 0).on = true
    · rw [if_pos h]; exact O.on h
    · rw [if_neg h]
      have h' : (g.wk 0).on = false := by simpa using h
      cases hl : (g.wk 0).left with
      | nil => unfold Wk.en at he; rw [h', hl] at he; cases he
      | cons o r => show ((g.tm + 1 : Nat) : Int) = _; rw [← O.off h']; simp
  have hsp : ((g.sp pr 0).bg : Int) = lastEn g.l + 1 := hbg
  have hso : (g.sp pr 0).on = !(g.sp pr 0).t.dn := rfl
  have hadv : (adv pr g 0).l = if (g.sp pr 0).t.dn then g.l ++ [evOf 0 (g.sp pr 0) (g.tm + 1)] else g.l := rfl
  have hwk : (adv pr g 0).wk 0 = g.sp pr 0 := by rw [wk_adv pr g 0 0 hw, if_pos rfl]
  have htm : (adv pr g 0).tm = g.tm + 1 := rfl
  cases hd : (g.sp pr 0).t.dn with
  | true =>
    rw [hd, if_pos rfl] at hadv
    refine ⟨fun i e h => ?_, fun h => ?_, fun h => ?_⟩
    · rw [hadv] at h ⊢
      by_cases hi : i < g.l.length
      · rw [List.getElem?_append_left hi] at h
        rw [List.take_append_of_le_length (by omega)]
        exact O.nx i e h
      · have hi2 : i = g.l.length := by have := (List.getElem?_eq_some_iff.1 h).1; simp at this; omega
        subst hi2
        rw [List.getElem?_append_right (Nat.le_refl _)] at h
        simp at h
        subst h
        rw [List.take_append_of_le_length (Nat.le_refl _), List.take_length]
        exact hsp
    · rw [hwk, hso, hd] at h; cases h
    · rw [hadv, lastEn_snoc, htm]; rfl
  | false =>
    rw [hd] at hadv
    simp at hadv
    refine ⟨fun i e h => ?_, fun h => ?_, fun h => ?_⟩
    · rw [hadv] at h ⊢; exact O.nx i e h
    · rw [hwk, hadv]; exact hsp
    · rw [hwk, hso, hd] at h; cases h
theorem one0 {n : Nat} {ss : List (List Opn)} (h : 0 < ss.length) : One (gm0 n ss) := by
  have hf : ((gm0 n ss).wk 0).on = false := by
    unfold Gm.wk gm0
    cases ss with
    | nil => simp at h
    | cons s r => rfl
  refine ⟨fun i e h => ?_, fun h => ?_, fun _ => rfl⟩
  · exact absurd (List.mem_of_getElem? h) List.not_mem_nil
  · rw [hf] at h; cases h
theorem run_one {n : Nat} {pr picks : List Int} {ss : List (List Opn)} (h : ss.length = 1) : ∀ T, One (run pr picks (gm0 n ss) T)
  | 0 => one0 (by omega)
  | T + 1 => by
    have ih := run_one (n := n) (pr := pr) (picks := picks) h T
    by_cases hne : on 0 (run pr picks (gm0 n ss) T).en = []
    · rw [run, if_pos hne]; exact ih
    · rw [run_next hne]
      have h1 := Gm.who_lt (picks := picks) hne
      have h2 := Gm.who_en (picks := picks) hne
      rw [run_len, h] at h1
      have h3 : (run pr picks (gm0 n ss) T).who picks = 0 := by omega
      rw [h3] at h2 ⊢
      exact one_adv ih (by rw [run_len]; omega) h2

/-- The unitings of a list of events, as pairs; the partition that they make. -/
def prL (l : List Ev) : List (Int × Int) := (l.filter fun e => decide (e.k = 3)).map fun e => (e.x, e.y)
def partAt (n : Nat) (l : List Ev) (i : Nat) : List Nat := ofL n (prL (l.take i))
theorem prL_snoc (l : List Ev) (e : Ev) : prL (l ++ [e]) = prL l ++ if e.k = 3 then [(e.x, e.y)] else [] := by
  unfold prL
  rw [List.filter_append, List.map_append]
  by_cases h : e.k = 3 <;> simp [h]
theorem partAt_zero (n : Nat) (l : List Ev) : partAt n l 0 = List.range n := rfl
theorem take_get {α : Type} {l : List α} {i : Nat} {e : α} (h : l[i]? = some e) : l.take (i + 1) = l.take i ++ [e] := by
  rw [List.take_add_one, h]; rfl
theorem partAt_succ {n : Nat} {l : List Ev} {i : Nat} {e : Ev} (h : l[i]? = some e) : partAt n l (i + 1) = if e.k = 3 then uniL (partAt n l i) e.x e.y else partAt n l i := by
  unfold partAt
  rw [take_get h, prL_snoc]
  split
  · rw [ofL_snoc]
  · rw [List.append_nil]
theorem partAt_length (n : Nat) (l : List Ev) (i : Nat) : (partAt n l i).length = n := ofL_length _ _

/-- Two of one class behind a uniting. -/
theorem uni_iff {p : List Nat} {x y : Int} (h : inB p x y = true) {a b : Nat} (ha : a < p.length) (hb : b < p.length) :
    el (uniL p x y) a = el (uniL p x y) b ↔ el p a = el p b ∨ (el p a = el p x.toNat ∧ el p b = el p y.toNat) ∨ (el p a = el p y.toNat ∧ el p b = el p x.toNat) := by
  rw [uniL_el h ha, uniL_el h hb]
  generalize el p a = u
  generalize el p b = v
  generalize el p x.toNat = s
  generalize el p y.toNat = t
  unfold join
  by_cases h1 : u = max s t <;> by_cases h2 : v = max s t
  · rw [if_pos h1, if_pos h2]; omega
  · rw [if_pos h1, if_neg h2]; omega
  · rw [if_neg h1, if_pos h2]; omega
  · rw [if_neg h1, if_neg h2]; omega

/-- What one worker's event says of the partition ahead of it. -/
structure Says (n : Nat) (p : List Nat) (e : Ev) : Prop where
  x : 0 ≤ e.x ∧ e.x < n
  y : e.k ≠ 1 → 0 ≤ e.y ∧ e.y < n
  k : e.k = 1 ∨ e.k = 2 ∨ e.k = 3
  f : e.k = 1 → 0 ≤ e.res ∧ e.res < n ∧ el p e.x.toNat = el p e.res.toNat
  s : e.k = 2 → (e.res = 1 ∧ el p e.x.toNat = el p e.y.toNat) ∨ (e.res = 0 ∧ ¬ el p e.x.toNat = el p e.y.toNat)
  u : e.k = 3 → (e.res = 0 ∧ el p e.x.toNat = el p e.y.toNat) ∨ (e.res = 1 ∧ ¬ el p e.x.toNat = el p e.y.toNat)

section
variable {n : Nat} {pr : List Int} {U : Nat → List Nat} {g : Gm}
/-- Where no place is nothing changes. -/
theorem quiet_to (L : Lin n pr U g) : ∀ (d a : Nat), a + d ≤ g.tm → (∀ t, a ≤ t → t < a + d → ∀ e ∈ g.l, e.won → e.pl ≠ (t : Int) + 1) → ∀ x y, x < n → y < n → (Sm (U (a + d)) x y ↔ Sm (U a) x y)
  | 0, a, _, _, x, y, _, _ => Iff.rfl
  | d + 1, a, h, hq, x, y, hx, hy => by
    have ih := quiet_to L d a (by omega) (fun t h1 h2 => hq t h1 (by omega)) x y hx hy
    rcases L.quiet (a + d) (by omega) with ⟨e, he, hw, hp⟩ | q
    · exact absurd hp (hq (a + d) (by omega) (by omega) e he hw)
    · exact (q x y hx hy).trans ih

theorem one_step (L : Lin n pr U g) (O : One g) (hwk : ∀ e ∈ g.l, e.wk = 0) {i : Nat} {e : Ev} (he : g.l[i]? = some e)
    (hB : ∀ x y, x < n → y < n → (Sm (U (lastEn (g.l.take i)).toNat) x y ↔ el (partAt n g.l i) x = el (partAt n g.l i) y)) :
    Says n (partAt n g.l i) e ∧ ∀ x y, x < n → y < n → (Sm (U e.en.toNat) x y ↔ el (partAt n g.l (i + 1)) x = el (partAt n g.l (i + 1)) y) := by
  have hm := List.mem_of_getElem? he
  have E := L.evs e hm
  obtain ⟨bg, pl, en, e1, e2, e3, e4, e5, e6, e7⟩ := E.t
  have hbg := O.nx i e he
  have h0 : (lastEn (g.l.take i)).toNat = bg - 1 := by omega
  rw [h0] at hB
  have hi : i < g.l.length := (List.getElem?_eq_some_iff.1 he).1
  have hgi : g.l[i] = e := (List.getElem?_eq_some_iff.1 he).2
  -- the places within the event's own time are its own
  have own : ∀ f ∈ g.l, ∀ t : Nat, f.pl = (t : Int) → bg ≤ t → t ≤ en → f = e := by
    intro f hf t ht h1 h2
    obtain ⟨j, hj, rfl⟩ := List.getElem_of_mem hf
    obtain ⟨bg', pl', en', q1, q2, q3, q4, q5, q6, q7⟩ := (L.evs _ hf).t
    rcases Nat.lt_trichotomy j i with h | h | h
    · have := (List.pairwise_iff_getElem.1 L.pw) j i hj hi h
      rw [hgi] at this
      have h3 := this.2.2 (by rw [hwk _ hf, hwk _ hm])
      omega
    · subst h; exact hgi
    · have := (List.pairwise_iff_getElem.1 L.pw) i j hi hj h
      rw [hgi] at this
      have h3 := this.2.2 (by rw [hwk _ hf, hwk _ hm])
      omega
  have q0 : ∀ x y, x < n → y < n → (Sm (U (pl - 1)) x y ↔ el (partAt n g.l i) x = el (partAt n g.l i) y) := by
    intro x y hx hy
    have := quiet_to L (pl - bg) (bg - 1) (by omega) (fun t h1 h2 f hf _ hp => by
      have := own f hf (t + 1) (by omega) (by omega) (by omega)
      subst this
      omega) x y hx hy
    rw [show bg - 1 + (pl - bg) = pl - 1 by omega] at this
    exact this.trans (hB x y hx hy)
  have q2 : ∀ x y, x < n → y < n → (Sm (U en) x y ↔ Sm (U pl) x y) := by
    intro x y hx hy
    have := quiet_to L (en - pl) pl (by omega) (fun t h1 h2 f hf _ hp => by
      have := own f hf (t + 1) (by omega) (by omega) (by omega)
      subst this
      omega) x y hx hy
    rwa [show pl + (en - pl) = en by omega] at this
  have q1 : ¬ e.won → ∀ x y, x < n → y < n → (Sm (U pl) x y ↔ el (partAt n g.l i) x = el (partAt n g.l i) y) := by
    intro hn x y hx hy
    rcases L.quiet (pl - 1) (by omega) with ⟨f, hf, hw, hp⟩ | q
    · have := own f hf pl (by omega) (by omega) (by omega)
      subst this
      exact absurd hw hn
    · rw [show pl - 1 + 1 = pl by omega] at q
      exact (q x y hx hy).trans (q0 x y hx hy)
  have hpt : e.pl.toNat = pl := by omega
  have hen : e.en.toNat = en := by omega
  have hx := E.x
  have hy := E.y
  have hxn : e.x.toNat < n := by omega
  have R := E.r
  rw [hpt] at R
  rw [hen, partAt_succ he]
  have hlen := partAt_length n g.l i
  rcases R with ⟨hk, r1, r2, r3⟩ | ⟨hk, R⟩ | ⟨hk, R⟩
  · have hn : ¬ e.won := fun h => by have := h.1; omega
    refine ⟨⟨hx, hy, .inl hk, fun _ => ⟨r1, r2, (q1 hn _ _ hxn (by omega)).1 r3⟩, fun h => by omega, fun h => by omega⟩, fun x y h1 h2 => ?_⟩
    rw [if_neg (by omega)]
    exact (q2 x y h1 h2).trans (q1 hn x y h1 h2)
  · have hn : ¬ e.won := fun h => by have := h.1; omega
    have hyn := hy (by omega)
    have hyn' : e.y.toNat < n := by omega
    refine ⟨⟨hx, hy, .inr (.inl hk), fun h => by omega, fun _ => ?_, fun h => by omega⟩, fun x y h1 h2 => ?_⟩
    · rcases R with ⟨r, r2⟩ | ⟨r, r2⟩
      · exact .inl ⟨r, (q1 hn _ _ hxn hyn').1 r2⟩
      · exact .inr ⟨r, fun q => r2 ((q1 hn _ _ hxn hyn').2 q)⟩
    · rw [if_neg (by omega)]
      exact (q2 x y h1 h2).trans (q1 hn x y h1 h2)
  · have hyn := hy (by omega)
    have hyn' : e.y.toNat < n := by omega
    rw [if_pos hk]
    have hin : inB (partAt n g.l i) e.x e.y = true := by simp [inB, hlen]; omega
    rcases R with ⟨r, r2⟩ | ⟨r, r2, r3⟩
    · have hn : ¬ e.won := fun h => by have := h.2; omega
      have hs := (q1 hn _ _ hxn hyn').1 r2
      refine ⟨⟨hx, hy, .inr (.inr hk), fun h => by omega, fun h => by omega, fun _ => .inl ⟨r, hs⟩⟩, fun x y h1 h2 => ?_⟩
      rw [uni_one hs]
      exact (q2 x y h1 h2).trans (q1 hn x y h1 h2)
    · refine ⟨⟨hx, hy, .inr (.inr hk), fun h => by omega, fun h => by omega, fun _ => .inr ⟨r, fun q => r2 ((q0 _ _ hxn hyn').2 q)⟩⟩, fun x y h1 h2 => ?_⟩
      rw [uni_iff hin (by omega) (by omega)]
      refine (q2 x y h1 h2).trans ((r3 x y h1 h2).trans ?_)
      rw [q0 x y h1 h2, q0 _ _ h1 hxn, q0 _ _ h2 hyn', q0 _ _ h1 hyn', q0 _ _ h2 hxn]

theorem one_all (L : Lin n pr U g) (O : One g) (hwk : ∀ e ∈ g.l, e.wk = 0) (hU : U 0 = List.range n) : ∀ i, i ≤ g.l.length → ∀ x y, x < n → y < n → (Sm (U (lastEn (g.l.take i)).toNat) x y ↔ el (partAt n g.l i) x = el (partAt n g.l i) y)
  | 0, _, x, y, hx, hy => by
    have F := L.F 0 (Nat.zero_le _)
    rw [hU] at F
    have e1 : rtu (List.range n) x = x := F.rt_self hx (el_range hx)
    have e2 : rtu (List.range n) y = y := F.rt_self hy (el_range hy)
    show rtu (U 0) x = rtu (U 0) y ↔ _
    rw [hU, e1, e2, partAt_zero, el_range hx, el_range hy]
  | i + 1, hi, x, y, hx, hy => by
    have ih := one_all L O hwk hU i (by omega)
    have he : g.l[i]? = some g.l[i] := List.getElem?_eq_getElem (by omega)
    have := (one_step L O hwk he ih).2 x y hx hy
    rwa [take_get he, lastEn_snoc]
theorem one_says (L : Lin n pr U g) (O : One g) (hwk : ∀ e ∈ g.l, e.wk = 0) (hU : U 0 = List.range n) {i : Nat} {e : Ev} (he : g.l[i]? = some e) : Says n (partAt n g.l i) e :=
  (one_step L O hwk he (one_all L O hwk hU i (Nat.le_of_lt (List.getElem?_eq_some_iff.1 he).1))).1
end

end Go.Proofs.YtpfcpeljfgmjgaaDoor

namespace Go.Proofs.YtpfcpeljfgmjgaaDoor
open Go.RowKit
set_option linter.unusedVariables false

/-- How many of the first k are least elements. -/
def clsK (p : List Nat) (k : Nat) : Nat := (List.range k).countP (fun i => el p i == i)
theorem clsK_succ_yes {p : List Nat} {k : Nat} (h : el p k = k) : clsK p (k + 1) = clsK p k + 1 := by
  unfold clsK; rw [List.range_succ, List.countP_append]; simp [h]
theorem clsK_succ_no {p : List Nat} {k : Nat} (h : el p k ≠ k) : clsK p (k + 1) = clsK p k := by
  unfold clsK; rw [List.range_succ, List.countP_append]; simp [h]
theorem clsK_le (p : List Nat) (k : Nat) : clsK p k ≤ k := by
  unfold clsK; have := List.countP_le_length (p := fun i => el p i == i) (l := List.range k); simpa using this

end Go.Proofs.YtpfcpeljfgmjgaaDoor

namespace Go.Proofs.YtpfcpeljfgmjgaaDoor
open Go.RowKit
set_option linter.unusedVariables false

/-- Behind k rounds. -/
def joinK (A B : Nat) (p : List Nat) (k : Nat) : List Nat := (p.take k).map (join A B) ++ p.drop k
theorem joinK_length (A B : Nat) (p : List Nat) (k : Nat) : (joinK A B p k).length = p.length := by
  unfold joinK; simp; omega
theorem joinK_zero (A B : Nat) (p : List Nat) : joinK A B p 0 = p := by simp [joinK]
theorem joinK_all (A B : Nat) (p : List Nat) {n : Nat} (h : p.length = n) : joinK A B p n = p.map (join A B) := by subst h; simp [joinK]
theorem joinK_el (A B : Nat) (p : List Nat) {k : Nat} (h : k < p.length) : el (joinK A B p k) k = el p k := by
  unfold joinK el
  rw [List.getD_eq_getElem?_getD, List.getElem?_append_right (by simp; omega)]
  simp [List.getD, Nat.min_eq_left (Nat.le_of_lt h)]
theorem joinK_succ (A B : Nat) (p : List Nat) {k : Nat} (h : k < p.length) : joinK A B p (k + 1) = (joinK A B p k).set k (join A B (el p k)) := by
  refine ext_el (by simp [joinK_length]) fun i hi => ?_
  rw [joinK_length] at hi
  have hl := joinK_length A B p k
  unfold el joinK at *
  by_cases e : k = i
  · subst e
    rw [List.getD_eq_getElem?_getD, List.getElem?_append_left (by simp; omega)]
    rw [List.getD_eq_getElem?_getD, List.getElem?_set_self (by simp; omega)]
    simp [List.getD, h]
  · rw [List.getD_eq_getElem?_getD (l := List.set _ _ _), List.getElem?_set_ne e, ← List.getD_eq_getElem?_getD]
    by_cases h2 : i < k
    · rw [List.getD_eq_getElem?_getD, List.getElem?_append_left (by simp; omega), List.getD_eq_getElem?_getD, List.getElem?_append_left (by simp; omega)]
      simp [h2, show i < k + 1 by omega]
    · rw [List.getD_eq_getElem?_getD, List.getElem?_append_right (by simp; omega), List.getD_eq_getElem?_getD, List.getElem?_append_right (by simp; omega)]
      have e1 : min (k + 1) p.length = k + 1 := by omega
      have e2 : min k p.length = k := by omega
      simp [e1, e2]
      congr 2
      omega
theorem joinK_keep (A B : Nat) (p : List Nat) {k : Nat} (h : k < p.length) (he : el p k ≠ max A B) : joinK A B p (k + 1) = joinK A B p k := by
  rw [joinK_succ A B p h]
  have : join A B (el p k) = el (joinK A B p k) k := by rw [joinK_el A B p h]; unfold join; rw [if_neg he]
  rw [this]
  refine ext_el (by simp) fun i hi => ?_
  by_cases e : k = i
  · subst e; rw [el_set_self (by rw [joinK_length]; exact h)]
  · rw [el_set_other e]

theorem drew_owns {w : World} {base e size : Nat} {v : Value} {n : Nat} {xs : List Value} (h : w.ownsRow base e size v n xs) (k : Nat) : (w.drewN k).ownsRow base e size v n xs := h


end Go.Proofs.YtpfcpeljfgmjgaaDoor

namespace Go.Proofs.YtpfcpeljfgmjgaaDoor
open Go.RowKit
set_option linter.unusedVariables false

end Go.Proofs.YtpfcpeljfgmjgaaDoor

namespace Go.Proofs.YtpfcpeljfgmjgaaDoor
open Go.RowKit
set_option linter.unusedVariables false
set_option linter.unusedSimpArgs false

theorem valid_made {n : Nat} {os : List (Nat × Nat × Nat)} (h : ∀ q ∈ os, okO n q) : valid n (os.map toO3) = (os.map toO3).map toOpn ∧ ∀ q ∈ os, (toOpn (toO3 q)).tr = toO3 q := by
  have hk : ∀ q ∈ os, okB (toO3 q).1 (toO3 q).2.1 (toO3 q).2.2 n := by
    intro q hq
    obtain ⟨h1, h2, h3, h4⟩ := h q hq
    refine ⟨?_, ?_, ⟨?_, ?_⟩, fun _ => ⟨?_, ?_⟩⟩ <;> simp only [toO3] <;> omega
  refine ⟨?_, fun q hq => ?_⟩
  · unfold valid
    rw [List.filter_eq_self.2]
    intro q hq
    obtain ⟨p, hp, rfl⟩ := List.mem_map.1 hq
    simpa using hk p hp
  · obtain ⟨_, h1, h2, h3⟩ := okB_opn (hk q hq)
    unfold Opn.tr
    rw [h1, h2, h3]

/-- What one worker's play tells. -/
theorem one_facts {pr xs : List Int} {n : Nat} {os : List (Nat × Nat × Nat)} {T : Nat} (hok : ∀ q ∈ os, okO n q) (h : Over pr xs n [os.map toO3] T) (hT : T ≤ 1000000) :
    (stAt pr xs n [os.map toO3] T).l.length = os.length ∧ ∀ r e, (stAt pr xs n [os.map toO3] T).l[r]? = some e → ∃ q, os[r]? = some q ∧ e.wk = 0 ∧ e.k = q.1 ∧ e.x = q.2.1 ∧ e.y = q.2.2 ∧
      Says n (partAt n (stAt pr xs n [os.map toO3] T).l r) e ∧ e.bg = lastEn ((stAt pr xs n [os.map toO3] T).l.take r) + 1 ∧ 0 ≤ e.en ∧ e.en ≤ 1000000 := by
  obtain ⟨hv, htr⟩ := valid_made hok
  obtain ⟨htm, L⟩ := run_lin (pr := pr) (picks := xs) (all_ok n [os.map toO3]) T h.1
  have O := run_one (n := n) (pr := pr) (picks := xs) (ss := [os.map toO3].map (valid n)) rfl T
  have D := run_ordd (n := n) (pr := pr) (picks := xs) (ss := [os.map toO3].map (valid n)) T
  have hwk : ∀ e ∈ (stAt pr xs n [os.map toO3] T).l, e.wk = 0 := by
    intro e he
    obtain ⟨w, hw, h1⟩ := D.who e he
    have : w = 0 := by simp at hw; omega
    rw [h1, this]; rfl
  have hev := over_evs (n := n) (pr := pr) (picks := xs) (ss := [os.map toO3].map (valid n)) (T := T) h.2 0 (valid n (os.map toO3)) rfl
  have hall : evs 0 (stAt pr xs n [os.map toO3] T).l = (stAt pr xs n [os.map toO3] T).l.map Ev.tr := by
    unfold evs
    rw [List.filter_eq_self.2 (fun e he => by simp [hwk e he])]
  have hev' : (stAt pr xs n [os.map toO3] T).l.map Ev.tr = os.map toO3 := by
    rw [← hall]
    refine hev.trans ?_
    rw [hv, List.map_map, List.map_map]
    exact List.map_congr_left fun q hq => htr q hq
  have hlen : (stAt pr xs n [os.map toO3] T).l.length = os.length := by
    have := congrArg List.length hev'
    simpa using this
  refine ⟨hlen, fun r e he => ?_⟩
  have hr := (List.getElem?_eq_some_iff.1 he).1
  obtain ⟨q, hq⟩ : ∃ q, os[r]? = some q := ⟨_, List.getElem?_eq_getElem (by omega)⟩
  have h1 : ((stAt pr xs n [os.map toO3] T).l.map Ev.tr)[r]? = (os.map toO3)[r]? := by rw [hev']
  rw [List.getElem?_map, List.getElem?_map, he, hq] at h1
  have h2 : e.tr = toO3 q := Option.some.inj h1
  obtain ⟨bg, pl, en, e1, e2, e3, e4, e5, e6, e7⟩ := (L.evs e (List.mem_of_getElem? he)).t
  have hS := one_says (U := fun t => (stAt pr xs n [os.map toO3] t).up) L O hwk rfl he
  rw [htm] at e7
  exact ⟨q, hq, hwk e (List.mem_of_getElem? he), congrArg Prod.fst h2, congrArg (fun z => z.2.1) h2, congrArg (fun z => z.2.2) h2, hS, O.nx r e he, by omega, by omega⟩

theorem lastEn_take {l : List Ev} {q : Nat} {e : Ev} (h : l[q]? = some e) : lastEn (l.take (q + 1)) = e.en := by rw [take_get h, lastEn_snoc]

/-! '!=' of two operations that are one -/
theorem Tryd.opWide1 : (match Tryd.prog.underlying 40 with | some (.array _ _) | some (.struct _) => true | _ => false) = true := by kernel_rfl
theorem Tryd.opDeep1 : Tryd.prog.keyTypeAt 3 40 = true := by kernel_rfl
theorem Tryd.opCells1 : Tryd.prog.cellsOf 40 = 3 := by kernel_rfl
theorem Tryd.intCells1 : Tryd.prog.cellsOf 3 = 1 := by kernel_rfl
theorem Tryd.opType1 : Tryd.prog.keyType 40 = true := by kernel_rfl
theorem Tryd.opGuard1 : Tryd.prog.eqGuardType Tryd.prog.depth 40 = false := by kernel_rfl
theorem Tryd.typesPos1 : ∃ m, Tryd.prog.types.size = m + 3 := ⟨Tryd.prog.types.size - 3, by have : 3 ≤ Tryd.prog.types.size := of_decide_eq_true (by kernel_rfl); omega⟩
theorem op_key1 {k x y : Int} (h1 : fits k) (h2 : fits x) (h3 : fits y) : ∃ l, keyOf Tryd.prog 40 (.agg #[.int .i64 k, .int .i64 x, .int .i64 y]) = some l := by
  obtain ⟨m, hm⟩ := Tryd.typesPos1
  unfold keyOf
  simp only [Tryd.underlying40, Tryd.opType1]
  rw [hm]
  simp [Program.keyLits, Value.formed, Tryd.underlying40, Tryd.opCells1, Tryd.intCells1, Tryd.underlying3, Value.cells, ev_fits_wf h1, ev_fits_wf h2, ev_fits_wf h3]
set_option maxRecDepth 100000 in
theorem op_guard1 (x y : Operand) (a b : Array Value) (w : World) : (eqGuard .neq 40 x y (.agg a) (.agg b)).run Tryd.prog w = .ok () w := by
  simp [eqGuard, Tryd.opGuard1, Result.andThen]
set_option maxRecDepth 100000 in
theorem op_same1 {k x y : Int} (w : World) (h1 : fits k) (h2 : fits x) (h3 : fits y) : (binOp .neq 40 (.agg #[.int .i64 k, .int .i64 x, .int .i64 y]) (.agg #[.int .i64 k, .int .i64 x, .int .i64 y])).run Tryd.prog w = .ok (.bool false) w := by
  obtain ⟨l, hl⟩ := op_key1 h1 h2 h3
  obtain ⟨b, hb, hiff⟩ := run_equal_deep (P := Tryd.prog) w (m := 3) (by omega) Tryd.opDeep1 Tryd.opWide1 hl hl
  obtain rfl := hiff.2 rfl
  simp [binOp, hb, Result.andThen]

end Go.Proofs.YtpfcpeljfgmjgaaDoor
