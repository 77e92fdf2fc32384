/- The table's game in memory; contract of package table's start. -/
import Derived.Test.YthhcchdjeeigpaaDoorTask
import Derived.Test.YthhcchdjeeigpaaDoorCount
namespace Go.Proofs.YthhcchdjeeigpaaDoor
open Go.RowKit Go.Maps
set_option linter.unusedVariables false
set_option linter.unusedSimpArgs false

/-- Scripts: a slice of slices of keys. -/
def KScr (hi : Nat) (w : World) (a : Option Addr) (n : Nat) (ss : List (List Ky)) : Prop :=
  ss.length = n ∧ (n = 0 ∨ ∃ b off, a = some ⟨b, off, none⟩ ∧ b < hi ∧ ∀ i s, ss[i]? = some s → ∃ a' c', w.cell? ⟨b, off + i, none⟩ = some (.slice a' s.length c') ∧ Sl 3 0 hi w a' s.length (s.map kcell))
theorem KScr.below {hi n B : Nat} {w w' : World} {a : Option Addr} {ss : List (List Ky)} (h : KScr hi w a n ss) (hb : Below B w w') (hh : hi ≤ B) : KScr hi w' a n ss := by
  obtain ⟨h1, h2 | ⟨b, off, rfl, hb', hc⟩⟩ := h
  · exact ⟨h1, .inl h2⟩
  · refine ⟨h1, .inr ⟨b, off, rfl, hb', fun i s hs => ?_⟩⟩
    obtain ⟨a', c', h3, h4⟩ := hc i s hs
    exact ⟨a', c', (hb.cell (p := ⟨b, off + i, none⟩) (show b < B by omega)).trans h3, h4.below hb hh⟩
theorem KScr.mono {hi hi' n : Nat} {w : World} {a : Option Addr} {ss : List (List Ky)} (h : KScr hi w a n ss) (hh : hi ≤ hi') : KScr hi' w a n ss := by
  obtain ⟨h1, h2 | ⟨b, off, rfl, hb', hc⟩⟩ := h
  · exact ⟨h1, .inl h2⟩
  · refine ⟨h1, .inr ⟨b, off, rfl, by omega, fun i s hs => ?_⟩⟩
    obtain ⟨a', c', h3, h4⟩ := hc i s hs
    exact ⟨a', c', h3, h4.mono (Nat.le_refl _) hh⟩
theorem KScr.heads {hi n : Nat} {w : World} {a : Option Addr} {ss : List (List Ky)} (h : KScr hi w a n ss) : Heads w a n (ss.map List.length) := by
  obtain ⟨h1, h2 | ⟨b, off, rfl, _, hc⟩⟩ := h
  · exact ⟨by simpa using h1, .inl h2⟩
  · refine ⟨by simpa using h1, .inr ⟨b, off, rfl, fun i m hm => ?_⟩⟩
    rw [List.getElem?_map] at hm
    cases hs : ss[i]? with
    | none => rw [hs] at hm; cases hm
    | some s =>
      rw [hs] at hm
      cases hm
      obtain ⟨a', c', h3, _⟩ := hc i s hs
      exact ⟨a', c', h3⟩

/-- What a worker has not done, in memory. -/
def AskAt (n : Int) (lo hi : Nat) (w : World) (av : Value) (l : List Ky) : Prop := ∃ a c, av = .slice a l.length c ∧ l.length ≤ c ∧ Sl 4 lo hi w a l.length (l.map (acell n))
theorem AskAt.agree {n : Int} {lo hi : Nat} {w w' : World} {av : Value} {l : List Ky} (h : AskAt n lo hi w av l) (hb : ∀ b, lo ≤ b → b < hi → w'.heap[b]? = w.heap[b]?) : AskAt n lo hi w' av l := by
  obtain ⟨a, c, h1, h2, h3⟩ := h
  exact ⟨a, c, h1, h2, h3.agree hb⟩
theorem AskAt.mono {n : Int} {lo hi hi' : Nat} {w : World} {av : Value} {l : List Ky} (h : AskAt n lo hi w av l) (hh : hi ≤ hi') : AskAt n lo hi' w av l := by
  obtain ⟨a, c, h1, h2, h3⟩ := h
  exact ⟨a, c, h1, h2, h3.mono (Nat.le_refl _) hh⟩
theorem AskAt.of_rows {n : Int} {lo : Nat} {w : World} {g : Nat} {l : List Ky} (h : RowsIn 4 w g (l.map (acell n))) (hl : lo ≤ g) : AskAt n lo w.heap.size w (.slice (some ⟨g, 0, none⟩) l.length l.length) l :=
  ⟨_, _, rfl, Nat.le_refl _, by simp, .inr ⟨g, 0, rfl, hl, h.1, fun i x hx j v hv => by rw [Nat.zero_add]; exact (h.2 i x hx j v hv).1⟩⟩

def tcell (k : Tw) (av gv : Value) : List Value := [av, .int .i64 (k.st : Int), gv]
theorem tcell_length (k : Tw) (av gv : Value) : (tcell k av gv).length = 3 := rfl

/-- The workers in memory. -/
def TRow (n : Int) (lo hi : Nat) (w : World) (B W : Nat) (gs : List Value) (ws : List Tw) : Prop :=
  ∃ cs, RowsIn 3 w B cs ∧ cs.length = W ∧ ∀ (i : Nat) (k : Tw) (gv : Value), ws[i]? = some k → gs[i]? = some gv → ∃ av, cs[i]? = some (tcell k av gv) ∧ AskAt n lo hi w av k.left

structure TG (w : World) (n room : Int) (W lo hi e0 G B M H : Nat) (kv : Value) (gs : List Value) (g : Tg) : Prop where
  box : Box w G 114 [.int .i64 room, kv, .map (some M), .map (some H), .slice (some ⟨B, 0, none⟩) W W, .int .i64 (g.tm : Int)]
  keys : w.ownsRow e0 57 3 kv g.keys.length (g.keys.flatMap kcell)
  map : ∃ D m, w.ownsMap Tryd.prog 57 (plainElem Tryd.prog 3) M m D ∧ PInv D g.keys ∧ m ≤ g.tm
  lock : ∃ D m, w.ownsMap Tryd.prog 3 (plainElem Tryd.prog 3) H m D ∧ HInv (sg n) D g ∧ m ≤ g.tm
  rows : TRow n lo hi w B W gs g.ws
  gots : ∀ (i : Nat) (k : Tw) (gv : Value), g.ws[i]? = some k → gs[i]? = some gv → w.ownsRow e0 3 1 gv k.got.length (k.got.map (Value.int .i64))
  gl : gs.length = W
  wl : g.ws.length = W
  apart : ∀ (i j : Nat) (a b : Value) (q : Nat), i ≠ j → gs[i]? = some a → gs[j]? = some b → a.ownBlock = some q → b.ownBlock ≠ some q
  apk : ∀ (i : Nat) (a : Value) (q : Nat), gs[i]? = some a → kv.ownBlock = some q → a.ownBlock ≠ some q
  lG : G < lo
  lB : B < lo
  lM : M < lo
  lH : H < lo
  lh : lo ≤ hi
  he : hi ≤ e0
  es : e0 ≤ w.heap.size
  GB : G ≠ B
  GM : G ≠ M
  GH : G ≠ H
  BM : B ≠ M
  BH : B ≠ H
  MH : M ≠ H

theorem TRow.agree {n : Int} {lo hi B W : Nat} {w w' : World} {gs : List Value} {ws : List Tw} (h : TRow n lo hi w B W gs ws) (hb : ∀ b, (b = B ∨ (lo ≤ b ∧ b < hi)) → w'.heap[b]? = w.heap[b]?) (hs : w.heap.size ≤ w'.heap.size) : TRow n lo hi w' B W gs ws := by
  obtain ⟨cs, h1, h2, h3⟩ := h
  refine ⟨cs, h1.agree (hb B (.inl rfl)) hs, h2, fun i k gv hk hg => ?_⟩
  obtain ⟨av, h4, h5⟩ := h3 i k gv hk hg
  exact ⟨av, h4, h5.agree fun b hl hh => hb b (.inr ⟨hl, hh⟩)⟩

/-- The game when nothing of it was changed. -/
theorem TG.agree {w w' : World} {n room : Int} {W lo hi e0 G B M H : Nat} {kv : Value} {gs : List Value} {g : Tg} (h : TG w n room W lo hi e0 G B M H kv gs g) (hb : ∀ b, b < w.heap.size → (b < hi ∨ kv.ownBlock = some b ∨ ∃ (i : Nat) (gv : Value), gs[i]? = some gv ∧ gv.ownBlock = some b) → w'.heap[b]? = w.heap[b]?) (hs : w.heap.size ≤ w'.heap.size) : TG w' n room W lo hi e0 G B M H kv gs g := by
  have lG := h.lG
  have lB := h.lB
  have lM := h.lM
  have lH := h.lH
  have lh := h.lh
  have he := h.he
  have es := h.es
  refine ⟨(hb G (by omega) (.inl (by omega))).trans h.box, ownsRow_agree h.keys fun q hq => hb q (ownsRow_lo h.keys q hq).2 (.inr (.inl hq)), ?_, ?_, h.rows.agree (fun b hb' => hb b (by rcases hb' with rfl | hb' <;> omega) (.inl (by rcases hb' with rfl | hb' <;> omega))) hs, fun i k gv hk hg => ownsRow_agree (h.gots i k gv hk hg) fun q hq => hb q (ownsRow_lo (h.gots i k gv hk hg) q hq).2 (.inr (.inr ⟨i, gv, hg, hq⟩)), h.gl, h.wl, h.apart, h.apk, lG, lB, lM, lH, lh, he, Nat.le_trans es hs, h.GB, h.GM, h.GH, h.BM, h.BH, h.MH⟩
  · obtain ⟨D, m, h1, h2, h3⟩ := h.map
    exact ⟨D, m, ownsMap_agree h1 (hb M (by omega) (.inl (by omega))), h2, h3⟩
  · obtain ⟨D, m, h1, h2, h3⟩ := h.lock
    exact ⟨D, m, ownsMap_agree h1 (hb H (by omega) (.inl (by omega))), h2, h3⟩
theorem TG.below {w w' : World} {n room : Int} {W lo hi e0 G B M H : Nat} {kv : Value} {gs : List Value} {g : Tg} (h : TG w n room W lo hi e0 G B M H kv gs g) (hb : Below w.heap.size w w') : TG w' n room W lo hi e0 G B M H kv gs g := h.agree (fun b hb' _ => hb.block b hb') hb.size
/-- .. a block between the game's own and what it owns besides. -/
theorem TG.two {w w' : World} {n room : Int} {W lo hi e0 G B M H C : Nat} {kv : Value} {gs : List Value} {g : Tg} (h : TG w n room W lo hi e0 G B M H kv gs g) (ht : Two C C w w') (h1 : hi ≤ C) (h2 : C < e0) : TG w' n room W lo hi e0 G B M H kv gs g := by
  refine h.agree (fun b hb' hc => ht.block b hb' ?_ ?_) ht.size
  all_goals
    rintro rfl
    rcases hc with hc | hc | ⟨i, gv, hg, hq⟩
    · omega
    · have := (ownsRow_lo h.keys _ hc).1; omega
    · obtain ⟨k, hk⟩ : ∃ k, g.ws[i]? = some k := ⟨_, List.getElem?_eq_getElem (by rw [h.wl, ← h.gl]; exact (List.getElem?_eq_some_iff.1 hg).1)⟩
      have := (ownsRow_lo (h.gots i k gv hk hg) _ hq).1
      omega

theorem Tryd.twInfo : (Tryd.prog.info? 142).map (fun i => (i.zero, i.size, i.bytes)) = some (some (.agg #[.slice none 0 0, .int .i64 0, .slice none 0 0]), 3, 56) := by kernel_rfl
def z3 : List Value := [.slice none 0 0, .int .i64 0, .slice none 0 0]

/-- The workers ahead of the first time, so many with their keys. -/
def TRow0 (n : Int) (lo : Nat) (w : World) (B : Nat) (ss : List (List Ky)) (k : Nat) : Prop :=
  ∃ cs, RowsIn 3 w B cs ∧ cs.length = ss.length ∧ (∀ y ∈ cs, y.length = 3) ∧ (∀ (i : Nat) (s : List Ky), i < k → ss[i]? = some s → ∃ av, cs[i]? = some [av, .int .i64 0, .slice none 0 0] ∧ AskAt n lo w.heap.size w av s) ∧ (∀ i, k ≤ i → i < ss.length → cs[i]? = some z3)
theorem TRow0.agree {n : Int} {lo B k : Nat} {w w' : World} {ss : List (List Ky)} (h : TRow0 n lo w B ss k) (hb : ∀ b, b < w.heap.size → w'.heap[b]? = w.heap[b]?) (hs : w.heap.size ≤ w'.heap.size) : TRow0 n lo w' B ss k := by
  obtain ⟨cs, h1, h2, h3, h4, h5⟩ := h
  refine ⟨cs, h1.agree (hb B h1.1) hs, h2, h3, fun i s hi hs' => ?_, h5⟩
  obtain ⟨av, h6, h7⟩ := h4 i s hi hs'
  exact ⟨av, h6, (h7.agree fun b _ hh => hb b hh).mono hs⟩
theorem TRow0.cell0 {n : Int} {lo B k i : Nat} {w : World} {ss : List (List Ky)} (h : TRow0 n lo w B ss k) (hi : k ≤ i) (hl : i < ss.length) : ∃ v, w.cell? ⟨B, i * 3, none⟩ = some v ∧ w.frozen? ⟨B, i * 3, none⟩ = false := by
  obtain ⟨cs, h1, h2, h3, h4, h5⟩ := h
  exact ⟨_, h1.2 i _ (h5 i hi hl) 0 _ rfl⟩
theorem TRow0.put {n : Int} {lo B k j : Nat} {w : World} {ss : List (List Ky)} {s : List Ky} {av : Value} (h : TRow0 n lo w B ss k) (hB : B < lo) (hs : ss[k]? = some s) (ha : AskAt n lo w.heap.size w av s) (hj : j = k * 3) : TRow0 n lo (w.setCell ⟨B, j, none⟩ av) B ss (k + 1) := by
  subst hj
  obtain ⟨cs, h1, h2, h3, h4, h5⟩ := h
  have hk := (List.getElem?_eq_some_iff.1 hs).1
  have hc := h5 k (Nat.le_refl _) hk
  have hz : (w.setCell ⟨B, k * 3, none⟩ av).heap.size = w.heap.size := by simp
  refine ⟨cs.set k (z3.set 0 av), h1.put (j := 0) hc rfl h3, by simpa using h2, ?_, ?_, ?_⟩
  · intro y hy
    obtain ⟨q, hq, rfl⟩ := List.getElem_of_mem hy
    rcases set_get' (List.getElem?_eq_getElem hq) with ⟨_, e⟩ | ⟨_, e⟩
    · rw [e]; rfl
    · exact h3 _ (List.mem_of_getElem? e)
  · intro i s' hi hs'
    rw [hz]
    have hag : ∀ av' l, AskAt n lo w.heap.size w av' l → AskAt n lo w.heap.size (w.setCell ⟨B, k * 3, none⟩ av) av' l := fun av' l h => h.agree fun b hl _ => Below.heap_setCell w _ _ b (by show b ≠ B; omega)
    by_cases e : i = k
    · subst e
      rw [hs] at hs'; cases hs'
      exact ⟨av, by rw [List.getElem?_set_self (by omega)]; rfl, hag _ _ ha⟩
    · obtain ⟨av', h6, h7⟩ := h4 i s' (by omega) hs'
      exact ⟨av', by rw [List.getElem?_set_ne (Ne.symm e)]; exact h6, hag _ _ h7⟩
  · intro i hi hl
    rw [List.getElem?_set_ne (by omega)]
    exact h5 i (by omega) hl

theorem start_laid (w : World) (la : Nat) (room : Int) (mk : Array Value) (hmk : mk = madeCells z3.toArray (la * 3)) (w4 : World) (hw4 : (((w.alloc (.map #[] 0)).alloc (.map #[] 0)).alloc (.cells mk 142)).alloc (.cells #[.int .i64 room, .slice none 0 0, .map (some w.heap.size), .map (some (w.heap.size + 1)), .slice (some ⟨w.heap.size + 1 + 1, 0, none⟩) la la, .int .i64 0] 114) = w4) :
    Box w4 (w.heap.size + 1 + 1 + 1) 114 [.int .i64 room, .slice none 0 0, .map (some w.heap.size), .map (some (w.heap.size + 1)), .slice (some ⟨w.heap.size + 1 + 1, 0, none⟩) la la, .int .i64 0] ∧ w4.ownsMap Tryd.prog 57 (plainElem Tryd.prog 3) w.heap.size 0 (DataW.map (H := Unit) []) ∧ w4.ownsMap Tryd.prog 3 (plainElem Tryd.prog 3) (w.heap.size + 1) 0 (DataW.map (H := Unit) []) ∧
      RowsIn 3 w4 (w.heap.size + 1 + 1) (List.replicate la z3) ∧ w4.heap.size = w.heap.size + 1 + 1 + 1 + 1 ∧ Below w.heap.size w w4 := by
  have hz : w4.heap.size = w.heap.size + 1 + 1 + 1 + 1 := by rw [← hw4]; simp
  refine ⟨?_, ?_, ?_, ?_, hz, ?_⟩
  · have := Box.new (((w.alloc (.map #[] 0)).alloc (.map #[] 0)).alloc (.cells mk 142)) 114 [.int .i64 room, .slice none 0 0, .map (some w.heap.size), .map (some (w.heap.size + 1)), .slice (some ⟨w.heap.size + 1 + 1, 0, none⟩) la la, .int .i64 0]
    simp only [World.size_alloc] at this
    rw [← hw4]; exact this
  · rw [← hw4]
    exact (((World.ownsMap_made _ _ _ _).alloc _).alloc _).alloc _
  · rw [← hw4]
    have := ((World.ownsMap_made (H := Unit) (w.alloc (.map #[] 0)) Tryd.prog 3 (plainElem Tryd.prog 3)).alloc (.cells mk 142)).alloc (.cells #[.int .i64 room, .slice none 0 0, .map (some w.heap.size), .map (some (w.heap.size + 1)), .slice (some ⟨w.heap.size + 1 + 1, 0, none⟩) la la, .int .i64 0] 114)
    rw [World.size_alloc] at this
    exact this
  · rw [← hw4, hmk]
    have := RowsIn.made ((w.alloc (.map #[] 0)).alloc (.map #[] 0)) z3 la 142 rfl
    simp only [World.size_alloc] at this
    exact this.agree (Below.heap_alloc _ _ _ (by simp)) (by simp)
  · rw [← hw4]
    exact ((((Below.refl _ _).alloc (Nat.le_refl _) _).alloc (by simp) _).alloc (by simp; omega) _).alloc (by simp; omega) _

theorem TRow0.row {n : Int} {lo B : Nat} {w : World} {ss : List (List Ky)} (h : TRow0 n lo w B ss ss.length) : TRow n lo w.heap.size w B ss.length (List.replicate ss.length (.slice none 0 0)) (tg0 ss).ws := by
  obtain ⟨cs, h1, h2, h3, h4, h5⟩ := h
  refine ⟨cs, h1, h2, fun i k gv hk hg => ?_⟩
  unfold tg0 at hk
  rw [List.getElem?_map] at hk
  rw [List.getElem?_replicate] at hg
  split at hg
  · cases hg
    cases hs : ss[i]? with
    | none => rw [hs] at hk; cases hk
    | some s =>
      rw [hs] at hk
      cases hk
      obtain ⟨av, h6, h7⟩ := h4 i s (List.getElem?_eq_some_iff.1 hs).1 hs
      exact ⟨av, h6, h7⟩
  · cases hg
theorem tg_start {w w2 : World} {n room : Int} {W lo e0 G B M H : Nat} {ss : List (List Ky)} (hW : ss.length = W) (hbox : Box w G 114 [.int .i64 room, .slice none 0 0, .map (some M), .map (some H), .slice (some ⟨B, 0, none⟩) W W, .int .i64 0])
    (hm : w.ownsMap Tryd.prog 57 (plainElem Tryd.prog 3) M 0 (DataW.map (H := Unit) [])) (hh : w.ownsMap Tryd.prog 3 (plainElem Tryd.prog 3) H 0 (DataW.map (H := Unit) [])) (hr : TRow0 n lo w B ss W) (lG : G < lo) (lB : B < lo) (lM : M < lo) (lH : H < lo) (lh : lo ≤ w.heap.size)
    (n1 : G ≠ B) (n2 : G ≠ M) (n3 : G ≠ H) (n4 : B ≠ M) (n5 : B ≠ H) (n6 : M ≠ H) (hb : Below w.heap.size w w2) (he : w.heap.size ≤ e0) (hes : e0 ≤ w2.heap.size) :
    TG w2 n room W lo w.heap.size e0 G B M H (.slice none 0 0) (List.replicate W (.slice none 0 0)) (tg0 ss) := by
  subst hW
  have hrow := hr.row
  have hn : ∀ (i : Nat) (a : Value), (List.replicate ss.length (.slice none 0 0) : List Value)[i]? = some a → a = .slice none 0 0 := fun i a h => by
    rw [List.getElem?_replicate] at h
    split at h
    · cases h; rfl
    · cases h
  refine ⟨(hb.block G (by omega)).trans hbox, World.ownsRow_nil _ _ _ _, ⟨_, 0, ownsMap_agree hm (hb.block M (by omega)), pinv_nil, Nat.le_refl _⟩, ⟨_, 0, ownsMap_agree hh (hb.block H (by omega)), hinv_start _ _, Nat.le_refl _⟩, hrow.agree (fun b hb' => hb.block b (by rcases hb' with rfl | hb' <;> omega)) hb.size, ?_, by simp, by simp [tg0], ?_, ?_, lG, lB, lM, lH, lh, he, hes, n1, n2, n3, n4, n5, n6⟩
  · intro i k gv hk hg
    obtain rfl := hn i gv hg
    unfold tg0 at hk
    rw [List.getElem?_map] at hk
    cases hs : ss[i]? with
    | none => rw [hs] at hk; cases hk
    | some s =>
      rw [hs] at hk
      cases hk
      exact World.ownsRow_nil _ _ _ _
  · intro i j a b q _ ha _ hq
    rw [hn i a ha] at hq
    cases hq
  · intro i a q _ hq
    cases hq

set_option maxRecDepth 100000 in
set_option maxHeartbeats 4000000 in
theorem tstart_any (a : Option Addr) (la ca : Nat) (ss : List (List Ky)) (room n : Int) (w : World) {hi0 : Nat} (hs : KScr hi0 w a la ss) (hhi : hi0 ≤ w.heap.size) (hm : la ≤ 64) (hkn : ∀ s ∈ ss, s.length ≤ 4096) (hf : ∀ s ∈ ss, ∀ k ∈ s, kfit k) :
    Calls Tryd.prog 46 #[.slice a la ca, .int .i64 room, .int .i64 n] w fun e w' => ∃ lo G B M H, e = .returned (.pointer (some ⟨G, 0, none⟩)) ∧ Below w.heap.size w w' ∧ w.heap.size ≤ G ∧ w.heap.size ≤ B ∧ w.heap.size ≤ M ∧ w.heap.size ≤ H ∧
      (∀ w2 e0, Below w'.heap.size w' w2 → w'.heap.size ≤ e0 → e0 ≤ w2.heap.size → TG w2 n room la lo w'.heap.size e0 G B M H (.slice none 0 0) (List.replicate la (.slice none 0 0)) (tg0 ss)) := by
  obtain ⟨i0, hi0', hz0, hz1, hz2⟩ := info_parts Tryd.twInfo
  have hmm := @run_makeMap Tryd.prog
  obtain ⟨mk, hmk⟩ : ∃ m, m = madeCells z3.toArray (la * 3) := ⟨_, rfl⟩
  have hmake : ∀ W, Sem.run Tryd.prog (Instr.makeSlice 112 (.int .i64 (la : Int)) (.int .i64 (la : Int))) W = .ok (.slice (some ⟨W.heap.size, 0, none⟩) la la) (W.alloc (.cells mk 142)) := fun W => by
    have := run_makeSlice (P := Tryd.prog) (w := W) 112 142 i0 _ Tryd.underlying112 hi0' hz0 .i64 .i64 (la : Int) (la : Int) (by omega) (Int.le_refl _) (by rw [hz1]; omega) (by rw [hz2]; omega) (by omega)
    rw [hz1] at this
    rw [hmk]
    simpa [Value.cells, z3] using this
  have HS := Lib.hid hs
  have HKN := Lib.hid hkn
  have HF := Lib.hid hf
  have HMK := Lib.hid hmk
  clear hs hkn hf hmk
  go_enter Tryd.func46, Tryd.ntmps46
  go_wp2_with fail
  generalize hw4 : (((w.alloc (.map #[] 0)).alloc (.map #[] 0)).alloc (.cells mk 142)).alloc (.cells #[.int .i64 room, .slice none 0 0, .map (some w.heap.size), .map (some (w.heap.size + 1)), .slice (some ⟨w.heap.size + 1 + 1, 0, none⟩) la la, .int .i64 0] 114) = w4
  obtain ⟨hbg, hm1, hm2, hr, hz, hb4⟩ := start_laid w la room mk HMK.out w4 hw4
  obtain ⟨B, hB⟩ : ∃ B, w.heap.size + 1 + 1 = B := ⟨_, rfl⟩
  obtain ⟨G, hG⟩ : ∃ G, w.heap.size + 1 + 1 + 1 = G := ⟨_, rfl⟩
  obtain ⟨H, hH⟩ : ∃ H, w.heap.size + 1 = H := ⟨_, rfl⟩
  obtain ⟨M, hM⟩ : ∃ M, w.heap.size = M := ⟨_, rfl⟩
  have hGB : G = B + 1 := by omega
  have hHM : H = M + 1 := by omega
  have hBH : B = H + 1 := by omega
  have hz4 : w4.heap.size = G + 1 := by omega
  rw [hG] at hbg
  rw [hB] at hbg hr
  rw [hH] at hbg hm2
  rw [hM] at hbg hm1
  rw [hG, hB, hH, hM]
  have HHI : Hid (hi0 ≤ M) := by rw [← hM]; exact hhi
  have HBG := Lib.hid hbg
  have HM1 := Lib.hid hm1
  have HM2 := Lib.hid hm2
  have HB4 : Hid (Below M w w4) := by rw [← hM]; exact hb4
  have HWM := Lib.hid hM
  have nGB : G ≠ B := by omega
  have nGM : G ≠ M := by omega
  have nGH : G ≠ H := by omega
  have nBM : B ≠ M := by omega
  have nBH : B ≠ H := by omega
  have nMH : M ≠ H := by omega
  have lG : G < w4.heap.size := by omega
  have lB : B < w4.heap.size := by omega
  have lM : M < w4.heap.size := by omega
  have lH : H < w4.heap.size := by omega
  have lMB : M ≤ B := by omega
  have HSL : Hid (ss.length = la) := HS.out.1
  have HR0 : Hid (TRow0 n w4.heap.size w4 B ss 0) := ⟨_, hr, by rw [List.length_replicate]; exact HSL.out.symm, fun y hy => by rw [(List.mem_replicate.1 hy).2]; rfl, fun i s hi => absurd hi (Nat.not_lt_zero _), fun i _ hi => by rw [List.getElem?_replicate, if_pos (by rw [← HSL.out]; exact hi)]⟩
  have kG : w.heap.size ≤ G := by omega
  have kB : w.heap.size ≤ B := by omega
  have kM : w.heap.size ≤ M := by omega
  have kH : w.heap.size ≤ H := by omega
  clear hbg hm1 hm2 hr hz hb4 hw4 hB hG hH hM hGB hHM hBH hz4 hmm hmake
  go_wp2_with fail
  go_loopw [21] (fun iv wr => ∃ q : Nat, q ≤ la ∧ iv = .int .i64 (q : Int) ∧ Two B B w4 wr ∧ Hid (TRow0 n w4.heap.size wr B ss q)) (fun iv _ => la - (intOf iv).toNat)
  case atStart => exact ⟨0, Nat.zero_le _, rfl, Two.refl _ _ _, HR0.out⟩
  case round =>
    clear HR0
    obtain ⟨q, hq, rfl, ht, HR⟩ := hrel
    have hts := ht.size
    have hbg := ht.box HBG.out nGB nGB
    obtain ⟨_, _, _, _, _, _⟩ := hbg.six
    have hbm : Below M w wr := HB4.out.trans (ht.below (by omega) lMB lMB)
    by_cases hlt : q < la
    · obtain ⟨bb, off, rfl, hbb, hc⟩ := HS.out.2.resolve_left (by omega)
      obtain ⟨s, hsq⟩ : ∃ s, ss[q]? = some s := ⟨_, List.getElem?_eq_getElem (by have := HSL.out; omega)⟩
      obtain ⟨a', c', h3, h4⟩ := hc q s hsq
      have hbM : bb < M := by have := HHI.out; omega
      have cS := (hbm.cell (p := ⟨bb, off + q, none⟩) hbM).trans h3
      have hsm := List.mem_of_getElem? hsq
      have hMr : M ≤ wr.heap.size := by omega
      have HT1 := Lib.hid (asks_any a' s.length c' s n wr.drew (h4.below hbm.drew HHI.out) (Nat.le_trans HHI.out hMr) (by have := HKN.out s hsm; omega) (HF.out s hsm))
      have hbw : bb < wr.heap.size := by omega
      have HSQ := Lib.hid hsq
      have HSLT : Hid (q < ss.length) := (List.getElem?_eq_some_iff.1 hsq).1
      have HBM := Lib.hid hbm
      have HTW := Lib.hid ht
      have HBX := Lib.hid hbg
      have hq0 : (0 : Int) ≤ (q : Int) := by omega
      have hq1 : (q : Int) < (la : Int) := by omega
      have hGr : G < wr.heap.size := by omega
      have hBr : B < wr.heap.size := by omega
      obtain ⟨j, hj⟩ : ∃ j, j = q * 3 := ⟨_, rfl⟩
      have T2 : ∀ W0, Sem.run Tryd.prog (Instr.indexAt 112 (.slice (some ⟨B, 0, none⟩) la la) (.int .i64 (q : Int))) W0 = .ok (.pointer (some ⟨B, j, none⟩)) W0 := fun W0 => by rw [hj]; go_simp
      have HJ := Lib.hid hj
      obtain ⟨m0, hm0⟩ : ∃ m, s.length = m := ⟨_, rfl⟩
      rw [hm0] at cS HT1
      have HM0 := Lib.hid hm0
      clear hc h3 h4 hsq hsm hbm ht hbg hj hm0
      go_upto_region 5 with fail
      go_region_with (first | (go_at_call 68; (with_reducible refine (HT1.out).mono ?_); rintro e wz ⟨gq, rfl, hgq, hrq, hbz⟩; have hbq := HBX.out.drew.below hbz; obtain ⟨_, _, _, _, _, _⟩ := hbq.six; have hzs := hbz.size; have hrz := HR.out.agree (w' := wz) hbz.block hbz.size; obtain ⟨vB, cB, fB⟩ := hrz.cell0 (by omega) HSLT.out; rw [← HJ.out] at cB fB; have HRZ := Lib.hid hrz; clear hrz; have hBz : B < wz.heap.size := Nat.lt_of_lt_of_le hBr hbz.size))
      all_goals (
        have hask := AskAt.of_rows (lo := w4.heap.size) hrq (by have : wr.drew.heap.size = wr.heap.size := rfl; omega)
        rw [HM0.out] at hask
        have hnew := HRZ.out.put lB HSQ.out hask HJ.out
        have htw := (HTW.out.drew.belowNew hbz).set B j (.inl rfl) (.slice (some ⟨gq, 0, none⟩) m0 m0)
        have HNEW := Lib.hid hnew
        have HTW2 := Lib.hid htw
        clear hnew htw hask
        go_wp2_with fail
        refine ⟨⟨q + 1, by omega, by go_num, HTW2.out, HNEW.out⟩, ?_⟩
        simp [intOf]; omega)
    · obtain rfl : q = la := by omega
      have HTW := Lib.hid ht
      have HBM := Lib.hid hbm
      have HBX := Lib.hid hbg
      clear ht hbm hbg
      go_wp2_with fail
      go_ret
      have h1 := ownsMap_agree HM1.out (HTW.out.block M lM (Ne.symm nBM) (Ne.symm nBM))
      have h2 := ownsMap_agree HM2.out (HTW.out.block H lH (Ne.symm nBH) (Ne.symm nBH))
      refine ⟨w4.heap.size, G, B, M, H, rfl, by rw [HWM.out]; exact HBM.out, by omega, by omega, by omega, by omega, fun w2 e0 hb he hes => ?_⟩
      exact tg_start HSL.out HBX.out h1 h2 HR.out lG lB lM lH hts nGB nGM nGH nBM nBH nMH hb he hes

end Go.Proofs.YthhcchdjeeigpaaDoor
