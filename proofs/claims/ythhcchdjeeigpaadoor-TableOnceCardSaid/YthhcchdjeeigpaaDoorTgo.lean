/- Contract of package table's goOn. -/
import Derived.Test.YthhcchdjeeigpaaDoorTen
namespace Go.Proofs.YthhcchdjeeigpaaDoor
open Go.RowKit Go.Maps
set_option linter.unusedVariables false
set_option linter.unusedSimpArgs false

/-- The workers, one of them as it is under way. -/
def TPart (n : Int) (lo hi : Nat) (w : World) (B W i : Nat) (gs : List Value) (ws : List Tw) (x : List Value) : Prop :=
  i < W ∧ ∃ cs, RowsIn 3 w B cs ∧ cs.length = W ∧ cs[i]? = some x ∧ (∀ y ∈ cs, y.length = 3) ∧ ∀ (j : Nat) (k : Tw) (gv : Value), j ≠ i → ws[j]? = some k → gs[j]? = some gv → ∃ av, cs[j]? = some (tcell k av gv) ∧ AskAt n lo hi w av k.left
theorem TRow.part {n : Int} {lo hi B W i : Nat} {w : World} {gs : List Value} {ws : List Tw} {k : Tw} {gv : Value} (h : TRow n lo hi w B W gs ws) (hgl : gs.length = W) (hwl : ws.length = W) (hk : ws[i]? = some k) (hg : gs[i]? = some gv) :
    ∃ a c, k.left.length ≤ c ∧ Sl 4 lo hi w a k.left.length (k.left.map (acell n)) ∧ TPart n lo hi w B W i gs ws (tcell k (.slice a k.left.length c) gv) := by
  obtain ⟨cs, h1, h2, h3⟩ := h
  obtain ⟨av, h4, a, c, rfl, h5, h6⟩ := h3 i k gv hk hg
  refine ⟨a, c, h5, h6, by rw [← hwl]; exact (List.getElem?_eq_some_iff.1 hk).1, cs, h1, h2, h4, ?_, fun j k' gv' _ hj hg' => h3 j k' gv' hj hg'⟩
  intro y hy
  obtain ⟨q, hq, rfl⟩ := List.getElem_of_mem hy
  obtain ⟨k', hk'⟩ : ∃ k', ws[q]? = some k' := ⟨_, List.getElem?_eq_getElem (by omega)⟩
  obtain ⟨gv', hg'⟩ : ∃ gv', gs[q]? = some gv' := ⟨_, List.getElem?_eq_getElem (by omega)⟩
  obtain ⟨av', h7, _⟩ := h3 q k' gv' hk' hg'
  rw [List.getElem?_eq_getElem hq] at h7
  have := Option.some.inj h7
  rw [this]; rfl
theorem TPart.agree {n : Int} {lo hi B W i : Nat} {w w' : World} {gs : List Value} {ws : List Tw} {x : List Value} (h : TPart n lo hi w B W i gs ws x) (hb : ∀ b, (b = B ∨ (lo ≤ b ∧ b < hi)) → w'.heap[b]? = w.heap[b]?) (hs : w.heap.size ≤ w'.heap.size) : TPart n lo hi w' B W i gs ws x := by
  obtain ⟨h0, cs, h1, h2, h3, h4, h5⟩ := h
  refine ⟨h0, cs, h1.agree (hb B (.inl rfl)) hs, h2, h3, h4, fun j k gv hj hk hg => ?_⟩
  obtain ⟨av, h6, h7⟩ := h5 j k gv hj hk hg
  exact ⟨av, h6, h7.agree fun b hl hh => hb b (.inr ⟨hl, hh⟩)⟩
theorem TPart.cell {n : Int} {lo hi B W i : Nat} {w : World} {gs : List Value} {ws : List Tw} {x : List Value} (h : TPart n lo hi w B W i gs ws x) (j : Nat) (v : Value) (hv : x[j]? = some v) : w.cell? ⟨B, i * 3 + j, none⟩ = some v ∧ w.frozen? ⟨B, i * 3 + j, none⟩ = false := by
  obtain ⟨h0, cs, h1, h2, h3, h4, h5⟩ := h
  exact h1.2 i x h3 j v hv
theorem TPart.lt {n : Int} {lo hi B W i : Nat} {w : World} {gs : List Value} {ws : List Tw} {x : List Value} (h : TPart n lo hi w B W i gs ws x) : B < w.heap.size := by
  obtain ⟨h0, cs, h1, _⟩ := h; exact h1.1
theorem TPart.put {n : Int} {lo hi B W i j : Nat} {w : World} {gs : List Value} {ws : List Tw} {x : List Value} {v0 : Value} (h : TPart n lo hi w B W i gs ws x) (hB : B < lo) (hx : x[j]? = some v0) (v : Value) : TPart n lo hi (w.setCell ⟨B, i * 3 + j, none⟩ v) B W i gs ws (x.set j v) := by
  obtain ⟨h0, cs, h1, h2, h3, h4, h5⟩ := h
  refine ⟨h0, cs.set i (x.set j v), h1.put h3 hx h4, by simpa using h2, by rw [List.getElem?_set_self (by omega)], ?_, fun q k gv hq hk hg => ?_⟩
  · intro y hy
    obtain ⟨q, hq, rfl⟩ := List.getElem_of_mem hy
    rcases set_get' (List.getElem?_eq_getElem hq) with ⟨_, e⟩ | ⟨_, e⟩
    · rw [e, List.length_set]; exact h4 x (List.mem_of_getElem? h3)
    · exact h4 _ (List.mem_of_getElem? e)
  · obtain ⟨av, h6, h7⟩ := h5 q k gv hq hk hg
    exact ⟨av, by rw [List.getElem?_set_ne (Ne.symm hq)]; exact h6, h7.agree fun b hl hh => Below.heap_setCell w _ v b (by show b ≠ B; omega)⟩
theorem TPart.row {n : Int} {lo hi B W i : Nat} {w : World} {gs : List Value} {ws : List Tw} {x : List Value} (h : TPart n lo hi w B W i gs ws x) (k : Tw) (av gv : Value) (hx : x = tcell k av gv) (ha : AskAt n lo hi w av k.left) : TRow n lo hi w B W (gs.set i gv) (ws.set i k) := by
  obtain ⟨h0, cs, h1, h2, h3, h4, h5⟩ := h
  refine ⟨cs, h1, h2, fun j q gv' hq hg => ?_⟩
  rcases set_get' hq with ⟨rfl, rfl⟩ | ⟨hne, hq⟩
  · rcases set_get' hg with ⟨_, rfl⟩ | ⟨hne, _⟩
    · exact ⟨av, by rw [h3, hx], ha⟩
    · exact absurd rfl hne
  · rcases set_get' hg with ⟨rfl, _⟩ | ⟨_, hg⟩
    · exact absurd rfl hne
    · exact h5 j q gv' (Ne.symm hne) hq hg

/-- What a step of the game may change. -/
def TS (G B M H e0 : Nat) : Nat → Prop := fun b => b = G ∨ b = B ∨ b = M ∨ b = H ∨ e0 ≤ b

/-- The game behind a step: put together of its parts. -/
theorem TG.step {w w' : World} {n room : Int} {W lo hi e0 G B M H i : Nat} {kv kv' gv gv' av : Value} {gs : List Value} {g g' : Tg} {k : Tw} (h : TG w n room W lo hi e0 G B M H kv gs g) (hg : gs[i]? = some gv)
    (hws : g'.ws = g.ws.set i k) (htm : g'.tm = g.tm + 1)
    (hbox : Box w' G 114 [.int .i64 room, kv', .map (some M), .map (some H), .slice (some ⟨B, 0, none⟩) W W, .int .i64 (g'.tm : Int)])
    (hkeys : w'.ownsRow e0 57 3 kv' g'.keys.length (g'.keys.flatMap kcell))
    (hmap : ∃ D m, w'.ownsMap Tryd.prog 57 (plainElem Tryd.prog 3) M m D ∧ PInv D g'.keys ∧ m ≤ g'.tm)
    (hlock : ∃ D m, w'.ownsMap Tryd.prog 3 (plainElem Tryd.prog 3) H m D ∧ HInv (sg n) D g' ∧ m ≤ g'.tm)
    (hpart : TPart n lo hi w' B W i gs g.ws (tcell k av gv')) (hask : AskAt n lo hi w' av k.left)
    (hgot : w'.ownsRow e0 3 1 gv' k.got.length (k.got.map (Value.int .i64)))
    (hsz : w.heap.size ≤ w'.heap.size)
    (hrest : ∀ b, e0 ≤ b → b < w.heap.size → kv.ownBlock ≠ some b → gv.ownBlock ≠ some b → w'.heap[b]? = w.heap[b]?)
    (hkv : kv'.ownBlock = kv.ownBlock ∨ ∃ q, kv'.ownBlock = some q ∧ w.heap.size ≤ q) (hgv : gv'.ownBlock = gv.ownBlock ∨ ∃ q, gv'.ownBlock = some q ∧ w.heap.size ≤ q) (hkg : ∀ q, kv'.ownBlock = some q → gv'.ownBlock ≠ some q) :
    TG w' n room W lo hi e0 G B M H kv' (gs.set i gv') g' := by
  have hii : i < W := by rw [← h.gl]; exact (List.getElem?_eq_some_iff.1 hg).1
  have hgw : ∀ (j : Nat) (a : Value) (q : Nat), gs[j]? = some a → a.ownBlock = some q → e0 ≤ q ∧ q < w.heap.size := fun j a q hj hq => by
    obtain ⟨kj, hkj⟩ : ∃ kj, g.ws[j]? = some kj := ⟨_, List.getElem?_eq_getElem (by rw [h.wl, ← h.gl]; exact (List.getElem?_eq_some_iff.1 hj).1)⟩
    exact ownsRow_lo (h.gots j kj a hkj hj) q hq
  have hoth : ∀ (j : Nat) (a : Value) (q : Nat), j ≠ i → gs[j]? = some a → a.ownBlock = some q → gv'.ownBlock ≠ some q := fun j a q hne hj hq e => by
    rcases hgv with e1 | ⟨q', e1, hl⟩
    · exact h.apart j i a gv q hne hj hg hq (e1 ▸ e)
    · rw [e] at e1; cases e1
      have := (hgw j a q hj hq).2
      omega
  refine ⟨hbox, hkeys, hmap, hlock, ?_, ?_, by simpa using h.gl, by rw [hws]; simpa using h.wl, ?_, ?_, h.lG, h.lB, h.lM, h.lH, h.lh, h.he, Nat.le_trans h.es hsz, h.GB, h.GM, h.GH, h.BM, h.BH, h.MH⟩
  · rw [hws]; exact hpart.row k av gv' rfl hask
  · intro j kj a hkj hj
    rw [hws] at hkj
    rcases set_get' hj with ⟨rfl, rfl⟩ | ⟨hne, hj⟩
    · rcases set_get' hkj with ⟨_, rfl⟩ | ⟨hne, _⟩
      · exact hgot
      · exact absurd rfl hne
    · rcases set_get' hkj with ⟨rfl, _⟩ | ⟨_, hkj⟩
      · exact absurd rfl hne
      · refine ownsRow_agree (h.gots j kj a hkj hj) fun q hq => ?_
        have h1 := hgw j a q hj hq
        exact hrest q h1.1 h1.2 (fun e => h.apk j a q hj e hq) (fun e => h.apart j i a gv q (Ne.symm hne) hj hg hq e)
  · intro j1 j2 a b q hne h1 h2 hq
    rcases set_get' h1 with ⟨rfl, rfl⟩ | ⟨hn1, p1⟩
    · rcases set_get' h2 with ⟨rfl, _⟩ | ⟨hn2, p2⟩
      · exact absurd rfl hne
      · exact fun e => hoth j2 b q (Ne.symm hn2) p2 e hq
    · rcases set_get' h2 with ⟨rfl, rfl⟩ | ⟨hn2, p2⟩
      · exact hoth j1 a q (Ne.symm hn1) p1 hq
      · exact h.apart j1 j2 a b q hne p1 p2 hq
  · intro j a q hj hq
    rcases set_get' hj with ⟨rfl, rfl⟩ | ⟨hne, hj⟩
    · exact hkg q hq
    · intro e
      rcases hkv with e1 | ⟨q', e1, hl⟩
      · exact h.apk j a q hj (e1 ▸ hq) e
      · rw [hq] at e1; cases e1
        have := (hgw j a q hj e).2
        omega

theorem At.ask {w : World} {b off : Nat} {n : Int} {q : Ky} {l : List Ky} (h : At 4 w b off ((q :: l).map (acell n))) : w.cell? ⟨b, off, none⟩ = some (.string q.s) ∧ w.cell? ⟨b, off + 1, none⟩ = some (.int .i64 q.a) ∧ w.cell? ⟨b, off + 2, none⟩ = some (.int .i64 q.b) ∧ w.cell? ⟨b, off + 3, none⟩ = some (.int .i64 (sg n q)) := by
  have a0 := h 0 (acell n q) rfl 0 _ rfl
  have a1 := h 0 (acell n q) rfl 1 _ rfl
  have a2 := h 0 (acell n q) rfl 2 _ rfl
  have a3 := h 0 (acell n q) rfl 3 _ rfl
  simp only [Nat.zero_mul, Nat.add_zero] at a0 a1 a2 a3
  exact ⟨a0, a1, a2, a3⟩

theorem Box.four {w : World} {b : Nat} {t : TypeId} {c0 c1 c2 c3 : Value} (h : Box w b t [c0, c1, c2, c3]) : w.cell? ⟨b, 0, none⟩ = some c0 ∧ w.cell? ⟨b, 1, none⟩ = some c1 ∧ w.cell? ⟨b, 2, none⟩ = some c2 ∧ w.cell? ⟨b, 3, none⟩ = some c3 := ⟨h.cell 0, h.cell 1, h.cell 2, h.cell 3⟩

theorem run_skip4 {P : Program} {t : TypeId} (ht : P.underlying t = some (.slice (P.elem t))) (hs : (P.info? (P.elem t)).map (fun i => i.size) = some 4) (b off n cap : Nat) (hq : 1 ≤ n) (hn : n ≤ cap) :
    ∃ a', (1 < n → a' = some ⟨b, off + 4, none⟩) ∧ ∀ w, Sem.run P (Instr.slice t (.slice (some ⟨b, off, none⟩) n cap) (some (.int .i64 1)) none none) w = .ok (.slice a' (n - 1) (cap - 1)) w := by
  refine ⟨if cap = 1 then some ⟨b, off, none⟩ else some ⟨b, off + 4, none⟩, fun h => by rw [if_neg (by omega)], fun w => ?_⟩
  have := run_slice_l w t (some ⟨b, off, none⟩) n cap ht .i64 1 (by omega) (by omega)
  rw [this]
  obtain ⟨i, hi, he⟩ := Option.map_eq_some_iff.1 hs
  simp [sizeOf, typeInfo, hi, he, sliced, Result.andThen]
  split <;> simp_all [Addr.add]

set_option maxRecDepth 100000 in
set_option maxHeartbeats 4000000 in
/-- A lock is taken. -/
theorem go_take (w : World) (n room : Int) (W lo hi e0 G B M H : Nat) (kv : Value) (gs : List Value) (g : Tg) (h : TG w n room W lo hi e0 G B M H kv gs g) (i : Nat) (k : Tw) (q : Ky) (l : List Ky) (hk : g.ws[i]? = some k) (hl : k.left = q :: l) (hst : k.st = 0) (hfree : g.locked (sg n) (sg n q) = false) (htm : g.tm ≤ 1000000) (hW : W ≤ 1000)
    (g' : Tg) (hws : g'.ws = g.ws.set i ⟨q :: l, 1, k.got⟩) (hks : g'.keys = g.keys) (htm' : g'.tm = g.tm + 1) :
    Calls Tryd.prog 48 #[.pointer (some ⟨G, 0, none⟩), .int .i64 (i : Int)] w fun e w' => e = .returned (.tuple #[]) ∧ ∃ kv' gs', TG w' n room W lo hi e0 G B M H kv' gs' g' ∧ Out (TS G B M H e0) w w' := by
  have hi' : i < W := by rw [← h.wl]; exact (List.getElem?_eq_some_iff.1 hk).1
  obtain ⟨gv, hg⟩ : ∃ gv, gs[i]? = some gv := ⟨_, List.getElem?_eq_getElem (by rw [h.gl]; exact hi')⟩
  obtain ⟨ga, gc, rfl⟩ := ownsRow_shape (h.gots i k gv hk hg)
  obtain ⟨a, c, hcap, hsl, hpart⟩ := h.rows.part h.gl h.wl hk hg
  rw [hl] at hsl hcap hpart
  obtain ⟨b, off, rfl, hb1, hb2, hat⟩ := hsl.at (by simp)
  obtain ⟨a0, a1, a2, a3⟩ := hat.ask
  have hll : (q :: l).length = l.length + 1 := rfl
  rw [hll] at hpart hsl hcap
  obtain ⟨t, ht⟩ : ∃ t, t = g.tm := ⟨_, rfl⟩
  have hbox := h.box
  rw [← ht] at hbox htm htm'
  have w1 : IntKind.i64.wrap ((t : Int) + 1) = (t : Int) + 1 := IntWalk.i64_in _ (by omega)
  have htc : ((g'.tm : Nat) : Int) = (t : Int) + 1 := by rw [htm']; omega
  have lG := h.lG
  have lB := h.lB
  have lH := h.lH
  have lM := h.lM
  have lh := h.lh
  have he := h.he
  have es := h.es
  have hbw : b < w.heap.size := by omega
  have hGw : G < w.heap.size := by omega
  have hBw : B < w.heap.size := by omega
  have nGB := h.GB
  have nGH := h.GH
  have nGM := h.GM
  have nBH := h.BH
  have nbG : b ≠ G := by omega
  have nbB : b ≠ B := by omega
  have nbH : b ≠ H := by omega
  obtain ⟨_, _, _, _, _, _⟩ := hbox.six
  obtain ⟨_, _, _, _, _, _⟩ := hbox.sixf
  obtain ⟨d0, _⟩ := hpart.cell 0 _ rfl
  obtain ⟨d1, f1⟩ := hpart.cell 1 _ rfl
  rw [hst] at d1
  simp only [Nat.add_zero] at d0
  obtain ⟨j, hj⟩ : ∃ j, j = i * 3 := ⟨_, rfl⟩
  rw [← hj] at d0 d1 f1
  have hi0 : (0 : Int) ≤ (i : Int) := by omega
  have hi1 : (i : Int) < (W : Int) := by omega
  have T2 : ∀ W0, Sem.run Tryd.prog (Instr.indexAt 112 (.slice (some ⟨B, 0, none⟩) W W) (.int .i64 (i : Int))) W0 = .ok (.pointer (some ⟨B, j, none⟩)) W0 := fun W0 => by rw [hj]; go_simp
  obtain ⟨z, hz⟩ : ∃ z, sg n q = z := ⟨_, rfl⟩
  have hzf := sg_fit n q
  have HINV : Hid (∀ D, HInv (sg n) D g → HInv (sg n) (D.put (.int .i64 z) (.lit (.int .i64 (i : Nat)))) g') := fun D hD => by
    subst hz
    exact hinv_take hD (by rw [h.wl]; exact hi') hws (fun q' hq' => by rw [hk] at hq'; cases hq'; unfold Tw.hold; rw [if_pos hst]) rfl hfree _ rfl
  rw [hz] at a3 hzf
  obtain ⟨s, ka, kb⟩ := q
  dsimp only at a0 a1 a2
  obtain ⟨D, m, hD, hinv, hm⟩ := h.lock
  have hkey := keyOf_int_mk (k := 3) Tryd.underlying3 (tfit_wf hzf)
  -- the world behind the first regions
  have hx := Box.new (w.setCell ⟨G, 5, none⟩ (.int .i64 ((t : Int) + 1))) 145 [.string s, .int .i64 ka, .int .i64 kb, .int .i64 z]
  have hbg := (hbox.set 5 (.int .i64 ((t : Int) + 1))).alloc (.cells #[.string s, .int .i64 ka, .int .i64 kb, .int .i64 z] 145)
  have hHm : ((w.setCell ⟨G, 5, none⟩ (.int .i64 ((t : Int) + 1))).alloc (.cells #[.string s, .int .i64 ka, .int .i64 kb, .int .i64 z] 145)).ownsMap Tryd.prog 3 (plainElem Tryd.prog 3) H m D := (hD.setCell (a := ⟨G, 5, none⟩) (Ne.symm nGH) _).alloc _
  have hw2 : ((w.setCell ⟨G, 5, none⟩ (.int .i64 ((t : Int) + 1))).alloc (.cells #[.string s, .int .i64 ka, .int .i64 kb, .int .i64 z] 145)).heap.size = w.heap.size + 1 := by simp
  have hout : Out (TS G B M H e0) w ((w.setCell ⟨G, 5, none⟩ (.int .i64 ((t : Int) + 1))).alloc (.cells #[.string s, .int .i64 ka, .int .i64 kb, .int .i64 z] 145)) := ((Out.refl _ w).setCell (p := ⟨G, 5, none⟩) (.inl (.inl rfl)) _).alloc _
  simp only [List.set_cons_succ, List.set_cons_zero] at hbg
  simp only [List.toArray, World.size_setCell] at hx
  have e1 : ((w.setCell ⟨G, 5, none⟩ (.int .i64 ((t : Int) + 1))).alloc (.cells #[.string s, .int .i64 ka, .int .i64 kb, .int .i64 z] 145)).cell? ⟨B, j + 1, none⟩ = some (.int .i64 0) := (World.cell?_of_block ((Below.heap_alloc _ _ B (by simpa using hBw)).trans (Below.heap_setCell w ⟨G, 5, none⟩ _ B (Ne.symm nGB)))).trans d1
  have e2 : ((w.setCell ⟨G, 5, none⟩ (.int .i64 ((t : Int) + 1))).alloc (.cells #[.string s, .int .i64 ka, .int .i64 kb, .int .i64 z] 145)).frozen? ⟨B, j + 1, none⟩ = false := (World.frozen?_of_block ((Below.heap_alloc _ _ B (by simpa using hBw)).trans (Below.heap_setCell w ⟨G, 5, none⟩ _ B (Ne.symm nGB)))).trans f1
  have HOTH : Hid (∀ b, b < w.heap.size → b ≠ G → ((w.setCell ⟨G, 5, none⟩ (.int .i64 ((t : Int) + 1))).alloc (.cells #[.string s, .int .i64 ka, .int .i64 kb, .int .i64 z] 145)).heap[b]? = w.heap[b]?) := fun b hb hn => (Below.heap_alloc _ _ b (by simpa using hb)).trans (Below.heap_setCell w ⟨G, 5, none⟩ _ b hn)
  generalize hW2 : (w.setCell ⟨G, 5, none⟩ (.int .i64 ((t : Int) + 1))).alloc (.cells #[.string s, .int .i64 ka, .int .i64 kb, .int .i64 z] 145) = W2 at *
  obtain ⟨wm, hrunm, hownm, hturn⟩ := World.ownsMap.store (w := W2.drew) hHm Tryd.tintKeyed Tryd.underlying111 (by unfold maxLen; omega) hkey (plainElem_int Tryd.underlying3 (a := (i : Int)) (WalkArith.wf_i64 (by omega)))
  have hgr := hturn.grown
  have hbg2 := hbg.drew.grown hgr (fun e => nGH (Option.some.inj e))
  have hB2 : B < W2.heap.size := by omega
  have k1 : wm.cell? ⟨B, j + 1, none⟩ = some (.int .i64 0) := (World.cell?_of_block (hgr.block B hB2 (fun e => nBH (Option.some.inj e)))).trans e1
  have k2 : wm.frozen? ⟨B, j + 1, none⟩ = false := (World.frozen?_of_block (hgr.block B hB2 (fun e => nBH (Option.some.inj e)))).trans e2
  have hBm : B < wm.heap.size := Nat.lt_of_lt_of_le hB2 hgr.size
  have hwx : w.heap.size < W2.heap.size := by omega
  have hG2 : G < W2.heap.size := by omega
  have hwm : w.heap.size ≤ wm.heap.size := by have := hgr.size; have e : W2.drew.heap.size = W2.heap.size := rfl; omega
  obtain ⟨_, _, _, _⟩ := hx.four
  obtain ⟨_, _, _, _, _, _⟩ := hbg.six
  have HBL : Hid (∀ b, b < w.heap.size → b ≠ G → b ≠ H → wm.heap[b]? = w.heap[b]?) := fun b hb h1 h2 => (hgr.block b (by show b < W2.heap.size; omega) (fun e => h2 (Option.some.inj e))).trans (HOTH.out b hb h1)
  have HOM := Lib.hid hownm
  have HINV2 := Lib.hid (HINV.out D hinv)
  have HOUT : Hid (Out (TS G B M H e0) w wm) := hout.drew.grown hgr (fun q hq => .inl (.inr (.inr (.inr (.inl (Option.some.inj hq).symm)))))
  have HH := Lib.hid h
  have HP := Lib.hid hpart
  have HSL := Lib.hid hsl
  have HHM := Lib.hid hm
  have HBG2 := Lib.hid hbg2
  have HHG := Lib.hid hg
  have HHK := Lib.hid hk
  have HHT := Lib.hid ht
  have HJ := Lib.hid hj
  have HWS := Lib.hid hws
  have HKS := Lib.hid hks
  have HTM' := Lib.hid htm'
  have HTC := Lib.hid htc
  have HCAP := Lib.hid hcap
  clear htc h hpart hsl hg hk ht hj hws hks htm' hcap hbg2 hout hinv hownm hgr hturn hHm hbg hx hbox hat HINV HOTH hD hkey hzf hz hst hl hfree hw2 hll hm
  go_enter Tryd.func48, Tryd.ntmps48
  go_wp2_with fail
  go_region
  go_wp2_with fail
  go_end0
  have hfin : ∀ b, b ≠ B → (wm.setCell ⟨B, j + 1, none⟩ (.int .i64 1)).heap[b]? = wm.heap[b]? := fun b hb => Below.heap_setCell wm ⟨B, j + 1, none⟩ _ b hb
  have hall : ∀ b, b < w.heap.size → b ≠ G → b ≠ H → b ≠ B → (wm.setCell ⟨B, j + 1, none⟩ (.int .i64 1)).heap[b]? = w.heap[b]? := fun b hb h1 h2 h3 => (hfin b h3).trans (HBL.out b hb h1 h2)
  have hown0 : ∀ q, kv.ownBlock = some q → e0 ≤ q ∧ q < w.heap.size := ownsRow_lo HH.out.keys
  have hown1 := ownsRow_lo (HH.out.gots i k _ HHK.out HHG.out)
  refine ⟨rfl, kv, _, HH.out.step (i := i) (k := ⟨⟨s, ka, kb⟩ :: l, 1, k.got⟩) (av := .slice (some ⟨b, off, none⟩) (l.length + 1) c) (gv' := .slice ga k.got.length gc) HHG.out HWS.out (by rw [HTM'.out, HHT.out]) ?_ ?_ ?_ ?_ ?_ ?_ ?_ ?_ ?_ (.inl rfl) (.inl rfl) (fun q hq => HH.out.apk i _ q HHG.out hq), HOUT.out.setCell (p := ⟨B, j + 1, none⟩) (.inl (.inr (.inl rfl))) _⟩
  · rw [HTC.out]
    have := HBG2.out.setOther (a := ⟨B, j + 1, none⟩) nGB (.int .i64 1)
    exact this
  · rw [HKS.out]
    exact ownsRow_agree HH.out.keys fun q hq => by have := hown0 q hq; exact hall q this.2 (by omega) (by omega) (by omega)
  · obtain ⟨D', m', p1, p2, p3⟩ := HH.out.map
    rw [HKS.out, HTM'.out]
    exact ⟨D', m', ownsMap_agree p1 (hall M (by omega) (Ne.symm nGM) HH.out.MH (Ne.symm HH.out.BM)), p2, by have := HHT.out; omega⟩
  · obtain ⟨_, m', _, _, p3⟩ := HH.out.lock
    rw [HTM'.out]
    exact ⟨_, m + 1, ownsMap_agree HOM.out (hfin H (Ne.symm nBH)), HINV2.out, by have := HHM.out; have := HHT.out; omega⟩
  · have hp2 : TPart n lo hi wm B W i gs g.ws (tcell k (.slice (some ⟨b, off, none⟩) (l.length + 1) c) (.slice ga k.got.length gc)) := HP.out.agree (fun b' hb' => HBL.out b' (by rcases hb' with rfl | hb' <;> omega) (by rcases hb' with rfl | hb' <;> omega) (by rcases hb' with rfl | hb' <;> omega)) hwm
    have hp3 := hp2.put (j := 1) lB rfl (.int .i64 1)
    rw [← HJ.out] at hp3
    exact hp3
  · exact ⟨_, c, rfl, HCAP.out, HSL.out.agree fun b' h1 h2 => hall b' (by omega) (by omega) (by omega) (by omega)⟩
  · exact ownsRow_agree (HH.out.gots i k _ HHK.out HHG.out) fun q hq => by have := hown1 q hq; exact hall q this.2 (by omega) (by omega) (by omega)
  · simpa using hwm
  · exact fun b' h1 h2 _ _ => hall b' h2 (by omega) (by omega) (by omega)

set_option maxRecDepth 100000 in
set_option maxHeartbeats 4000000 in
/-- A lock is let go. -/
theorem go_drop (w : World) (n room : Int) (W lo hi e0 G B M H : Nat) (kv : Value) (gs : List Value) (g : Tg) (h : TG w n room W lo hi e0 G B M H kv gs g) (i : Nat) (k : Tw) (q : Ky) (l : List Ky) (hk : g.ws[i]? = some k) (hl : k.left = q :: l) (hst : k.st = 2) (hd : ∀ (j : Nat) (k' : Tw), j ≠ i → g.ws[j]? = some k' → k'.hold (sg n) ≠ some (sg n q)) (htm : g.tm ≤ 1000000) (hW : W ≤ 1000)
    (g' : Tg) (hws : g'.ws = g.ws.set i ⟨l, 0, k.got⟩) (hks : g'.keys = g.keys) (htm' : g'.tm = g.tm + 1) :
    Calls Tryd.prog 48 #[.pointer (some ⟨G, 0, none⟩), .int .i64 (i : Int)] w fun e w' => e = .returned (.tuple #[]) ∧ ∃ kv' gs', TG w' n room W lo hi e0 G B M H kv' gs' g' ∧ Out (TS G B M H e0) w w' := by
  have hi' : i < W := by rw [← h.wl]; exact (List.getElem?_eq_some_iff.1 hk).1
  obtain ⟨gv, hg⟩ : ∃ gv, gs[i]? = some gv := ⟨_, List.getElem?_eq_getElem (by rw [h.gl]; exact hi')⟩
  obtain ⟨ga, gc, rfl⟩ := ownsRow_shape (h.gots i k gv hk hg)
  obtain ⟨a, c, hcap, hsl, hpart⟩ := h.rows.part h.gl h.wl hk hg
  rw [hl] at hsl hcap hpart
  obtain ⟨b, off, rfl, hb1, hb2, hat⟩ := hsl.at (by simp)
  obtain ⟨a0, a1, a2, a3⟩ := hat.ask
  have hll : (q :: l).length = l.length + 1 := rfl
  rw [hll] at hpart hsl hcap
  obtain ⟨t, ht⟩ : ∃ t, t = g.tm := ⟨_, rfl⟩
  have hbox := h.box
  rw [← ht] at hbox htm htm'
  have w1 : IntKind.i64.wrap ((t : Int) + 1) = (t : Int) + 1 := IntWalk.i64_in _ (by omega)
  have htc : ((g'.tm : Nat) : Int) = (t : Int) + 1 := by rw [htm']; omega
  have lG := h.lG
  have lB := h.lB
  have lH := h.lH
  have lM := h.lM
  have lh := h.lh
  have he := h.he
  have es := h.es
  have hbw : b < w.heap.size := by omega
  have hGw : G < w.heap.size := by omega
  have hBw : B < w.heap.size := by omega
  have nGB := h.GB
  have nGH := h.GH
  have nGM := h.GM
  have nBH := h.BH
  have nbG : b ≠ G := by omega
  have nbB : b ≠ B := by omega
  have nbH : b ≠ H := by omega
  obtain ⟨_, _, _, _, _, _⟩ := hbox.six
  obtain ⟨_, _, _, _, _, _⟩ := hbox.sixf
  obtain ⟨d0, f0⟩ := hpart.cell 0 _ rfl
  obtain ⟨d1, f1⟩ := hpart.cell 1 _ rfl
  rw [hst] at d1
  simp only [Nat.add_zero] at d0 f0
  obtain ⟨j, hj⟩ : ∃ j, j = i * 3 := ⟨_, rfl⟩
  rw [← hj] at d0 d1 f0 f1
  have hi0 : (0 : Int) ≤ (i : Int) := by omega
  have hi1 : (i : Int) < (W : Int) := by omega
  have T2 : ∀ W0, Sem.run Tryd.prog (Instr.indexAt 112 (.slice (some ⟨B, 0, none⟩) W W) (.int .i64 (i : Int))) W0 = .ok (.pointer (some ⟨B, j, none⟩)) W0 := fun W0 => by rw [hj]; go_simp
  obtain ⟨z, hz⟩ : ∃ z, sg n q = z := ⟨_, rfl⟩
  have hzf := sg_fit n q
  have HINV : Hid (∀ D, HInv (sg n) D g → HInv (sg n) (D.del (.int .i64 z)) g') := fun D hD => by
    subst hz
    exact hinv_drop hD (by rw [h.wl]; exact hi') hws (fun q' hq' => by rw [hk] at hq'; cases hq'; unfold Tw.hold; rw [if_neg (by omega), hl]; rfl) rfl hd
  obtain ⟨ra, hra, hrun1⟩ := run_skip4 (P := Tryd.prog) (t := 139) Tryd.underlying139 (by kernel_rfl) b off (l.length + 1) c (by omega) hcap
  rw [Nat.add_sub_cancel] at hrun1
  rw [hz] at a3 hzf
  obtain ⟨s, ka, kb⟩ := q
  dsimp only at a0 a1 a2
  obtain ⟨D, m, hD, hinv, hm⟩ := h.lock
  have hkey := keyOf_int_mk (k := 3) Tryd.underlying3 (tfit_wf hzf)
  -- the world behind the first regions
  have hx := Box.new (w.setCell ⟨G, 5, none⟩ (.int .i64 ((t : Int) + 1))) 145 [.string s, .int .i64 ka, .int .i64 kb, .int .i64 z]
  have hbg := (hbox.set 5 (.int .i64 ((t : Int) + 1))).alloc (.cells #[.string s, .int .i64 ka, .int .i64 kb, .int .i64 z] 145)
  have hHm : ((w.setCell ⟨G, 5, none⟩ (.int .i64 ((t : Int) + 1))).alloc (.cells #[.string s, .int .i64 ka, .int .i64 kb, .int .i64 z] 145)).ownsMap Tryd.prog 3 (plainElem Tryd.prog 3) H m D := (hD.setCell (a := ⟨G, 5, none⟩) (Ne.symm nGH) _).alloc _
  have hw2 : ((w.setCell ⟨G, 5, none⟩ (.int .i64 ((t : Int) + 1))).alloc (.cells #[.string s, .int .i64 ka, .int .i64 kb, .int .i64 z] 145)).heap.size = w.heap.size + 1 := by simp
  have hout : Out (TS G B M H e0) w ((w.setCell ⟨G, 5, none⟩ (.int .i64 ((t : Int) + 1))).alloc (.cells #[.string s, .int .i64 ka, .int .i64 kb, .int .i64 z] 145)) := ((Out.refl _ w).setCell (p := ⟨G, 5, none⟩) (.inl (.inl rfl)) _).alloc _
  simp only [List.set_cons_succ, List.set_cons_zero] at hbg
  simp only [List.toArray, World.size_setCell] at hx
  have e1 : ((w.setCell ⟨G, 5, none⟩ (.int .i64 ((t : Int) + 1))).alloc (.cells #[.string s, .int .i64 ka, .int .i64 kb, .int .i64 z] 145)).cell? ⟨B, j + 1, none⟩ = some (.int .i64 2) := (World.cell?_of_block ((Below.heap_alloc _ _ B (by simpa using hBw)).trans (Below.heap_setCell w ⟨G, 5, none⟩ _ B (Ne.symm nGB)))).trans d1
  have e2 : ((w.setCell ⟨G, 5, none⟩ (.int .i64 ((t : Int) + 1))).alloc (.cells #[.string s, .int .i64 ka, .int .i64 kb, .int .i64 z] 145)).frozen? ⟨B, j + 1, none⟩ = false := (World.frozen?_of_block ((Below.heap_alloc _ _ B (by simpa using hBw)).trans (Below.heap_setCell w ⟨G, 5, none⟩ _ B (Ne.symm nGB)))).trans f1
  have e3 : ((w.setCell ⟨G, 5, none⟩ (.int .i64 ((t : Int) + 1))).alloc (.cells #[.string s, .int .i64 ka, .int .i64 kb, .int .i64 z] 145)).cell? ⟨B, j, none⟩ = some (.slice (some ⟨b, off, none⟩) (l.length + 1) c) := (World.cell?_of_block ((Below.heap_alloc _ _ B (by simpa using hBw)).trans (Below.heap_setCell w ⟨G, 5, none⟩ _ B (Ne.symm nGB)))).trans d0
  have e4 : ((w.setCell ⟨G, 5, none⟩ (.int .i64 ((t : Int) + 1))).alloc (.cells #[.string s, .int .i64 ka, .int .i64 kb, .int .i64 z] 145)).frozen? ⟨B, j, none⟩ = false := (World.frozen?_of_block ((Below.heap_alloc _ _ B (by simpa using hBw)).trans (Below.heap_setCell w ⟨G, 5, none⟩ _ B (Ne.symm nGB)))).trans f0
  have HOTH : Hid (∀ b, b < w.heap.size → b ≠ G → ((w.setCell ⟨G, 5, none⟩ (.int .i64 ((t : Int) + 1))).alloc (.cells #[.string s, .int .i64 ka, .int .i64 kb, .int .i64 z] 145)).heap[b]? = w.heap[b]?) := fun b hb hn => (Below.heap_alloc _ _ b (by simpa using hb)).trans (Below.heap_setCell w ⟨G, 5, none⟩ _ b hn)
  generalize hW2 : (w.setCell ⟨G, 5, none⟩ (.int .i64 ((t : Int) + 1))).alloc (.cells #[.string s, .int .i64 ka, .int .i64 kb, .int .i64 z] 145) = W2 at *
  obtain ⟨wm, hrunm, hownm, hturn⟩ := World.ownsMap.drop (w := W2.drew) hHm Tryd.tintKeyed Tryd.underlying111 hkey 0
  have hgr := hturn.grown
  have hbg2 := hbg.drew.grown hgr (fun e => nGH (Option.some.inj e))
  have hB2 : B < W2.heap.size := by omega
  have k1 : wm.cell? ⟨B, j + 1, none⟩ = some (.int .i64 2) := (World.cell?_of_block (hgr.block B hB2 (fun e => nBH (Option.some.inj e)))).trans e1
  have k2 : wm.frozen? ⟨B, j + 1, none⟩ = false := (World.frozen?_of_block (hgr.block B hB2 (fun e => nBH (Option.some.inj e)))).trans e2
  have k3 : wm.cell? ⟨B, j, none⟩ = some (.slice (some ⟨b, off, none⟩) (l.length + 1) c) := (World.cell?_of_block (hgr.block B hB2 (fun e => nBH (Option.some.inj e)))).trans e3
  have k4 : wm.frozen? ⟨B, j, none⟩ = false := (World.frozen?_of_block (hgr.block B hB2 (fun e => nBH (Option.some.inj e)))).trans e4
  have hBm : B < wm.heap.size := Nat.lt_of_lt_of_le hB2 hgr.size
  have hwx : w.heap.size < W2.heap.size := by omega
  have hG2 : G < W2.heap.size := by omega
  have hwm : w.heap.size ≤ wm.heap.size := by have := hgr.size; have e : W2.drew.heap.size = W2.heap.size := rfl; omega
  obtain ⟨_, _, _, _⟩ := hx.four
  obtain ⟨_, _, _, _, _, _⟩ := hbg.six
  have HBL : Hid (∀ b, b < w.heap.size → b ≠ G → b ≠ H → wm.heap[b]? = w.heap[b]?) := fun b hb h1 h2 => (hgr.block b (by show b < W2.heap.size; omega) (fun e => h2 (Option.some.inj e))).trans (HOTH.out b hb h1)
  have HOM := Lib.hid hownm
  have HINV2 := Lib.hid (HINV.out D hinv)
  have HOUT : Hid (Out (TS G B M H e0) w wm) := hout.drew.grown hgr (fun q hq => .inl (.inr (.inr (.inr (.inl (Option.some.inj hq).symm)))))
  have HH := Lib.hid h
  have HP := Lib.hid hpart
  have HSL := Lib.hid hsl
  have HRA := Lib.hid hra
  have HAT := Lib.hid hat
  have HHM := Lib.hid hm
  have HBG2 := Lib.hid hbg2
  have HHG := Lib.hid hg
  have HHK := Lib.hid hk
  have HHT := Lib.hid ht
  have HJ := Lib.hid hj
  have HWS := Lib.hid hws
  have HKS := Lib.hid hks
  have HTM' := Lib.hid htm'
  have HTC := Lib.hid htc
  have HCAP := Lib.hid hcap
  clear hra htc h hpart hsl hg hk ht hj hws hks htm' hcap hbg2 hout hinv hownm hgr hturn hHm hbg hx hbox hat HINV HOTH hD hkey hzf hz hst hl hd hw2 hll hm
  go_enter Tryd.func48, Tryd.ntmps48
  go_wp2_with fail
  go_region
  go_wp2_with fail
  go_end0
  have hfin : ∀ b, b ≠ B → ((wm.setCell ⟨B, j, none⟩ (.slice ra l.length (c - 1))).setCell ⟨B, j + 1, none⟩ (.int .i64 0)).heap[b]? = wm.heap[b]? := fun b hb => (Below.heap_setCell _ ⟨B, j + 1, none⟩ _ b hb).trans (Below.heap_setCell wm ⟨B, j, none⟩ _ b hb)
  have hall : ∀ b, b < w.heap.size → b ≠ G → b ≠ H → b ≠ B → ((wm.setCell ⟨B, j, none⟩ (.slice ra l.length (c - 1))).setCell ⟨B, j + 1, none⟩ (.int .i64 0)).heap[b]? = w.heap[b]? := fun b hb h1 h2 h3 => (hfin b h3).trans (HBL.out b hb h1 h2)
  have hown0 : ∀ q, kv.ownBlock = some q → e0 ≤ q ∧ q < w.heap.size := ownsRow_lo HH.out.keys
  have hown1 := ownsRow_lo (HH.out.gots i k _ HHK.out HHG.out)
  refine ⟨rfl, kv, _, HH.out.step (i := i) (k := ⟨l, 0, k.got⟩) (av := .slice ra l.length (c - 1)) (gv' := .slice ga k.got.length gc) HHG.out HWS.out (by rw [HTM'.out, HHT.out]) ?_ ?_ ?_ ?_ ?_ ?_ ?_ ?_ ?_ (.inl rfl) (.inl rfl) (fun q hq => HH.out.apk i _ q HHG.out hq), (HOUT.out.setCell (p := ⟨B, j, none⟩) (.inl (.inr (.inl rfl))) _).setCell (p := ⟨B, j + 1, none⟩) (.inl (.inr (.inl rfl))) _⟩
  · rw [HTC.out]
    exact (HBG2.out.setOther (a := ⟨B, j, none⟩) nGB _).setOther (a := ⟨B, j + 1, none⟩) nGB (.int .i64 0)
  · rw [HKS.out]
    exact ownsRow_agree HH.out.keys fun q hq => by have := hown0 q hq; exact hall q this.2 (by omega) (by omega) (by omega)
  · obtain ⟨D', m', p1, p2, p3⟩ := HH.out.map
    rw [HKS.out, HTM'.out]
    exact ⟨D', m', ownsMap_agree p1 (hall M (by omega) (Ne.symm nGM) HH.out.MH (Ne.symm HH.out.BM)), p2, by have := HHT.out; omega⟩
  · rw [HTM'.out]
    exact ⟨_, m, ownsMap_agree HOM.out (hfin H (Ne.symm nBH)), HINV2.out, by have := HHM.out; have := HHT.out; omega⟩
  · have hp2 : TPart n lo hi wm B W i gs g.ws (tcell k (.slice (some ⟨b, off, none⟩) (l.length + 1) c) (.slice ga k.got.length gc)) := HP.out.agree (fun b' hb' => HBL.out b' (by rcases hb' with rfl | hb' <;> omega) (by rcases hb' with rfl | hb' <;> omega) (by rcases hb' with rfl | hb' <;> omega)) hwm
    have hp3 := (hp2.put (j := 0) lB rfl (.slice ra l.length (c - 1))).put (j := 1) lB rfl (.int .i64 0)
    rw [← HJ.out] at hp3
    exact hp3
  · refine ⟨ra, c - 1, rfl, by show l.length ≤ c - 1; have := HCAP.out; omega, by simp, ?_⟩
    by_cases hz0 : l.length = 0
    · exact .inl hz0
    · refine .inr ⟨b, off + 4, HRA.out (by omega), hb1, hb2, ?_⟩
      exact (HAT.out.tail).agree (hall b (by omega) (by omega) (by omega) (by omega))
  · exact ownsRow_agree (HH.out.gots i k _ HHK.out HHG.out) fun q hq => by have := hown1 q hq; exact hall q this.2 (by omega) (by omega) (by omega)
  · simpa using hwm
  · exact fun b' h1 h2 _ _ => hall b' h2 (by omega) (by omega) (by omega)

end Go.Proofs.YthhcchdjeeigpaaDoor
