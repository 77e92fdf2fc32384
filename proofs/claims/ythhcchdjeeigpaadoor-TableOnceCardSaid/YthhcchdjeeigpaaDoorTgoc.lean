/- Contract of package table's goOn: a key is looked for; all three ways. -/
import Derived.Test.YthhcchdjeeigpaaDoorTgo
namespace Go.Proofs.YthhcchdjeeigpaaDoor
open Go.RowKit Go.Maps
set_option linter.unusedVariables false
set_option linter.unusedSimpArgs false

theorem Looked.out7 {w w' : World} {G M e0 : Nat} {room : Int} {kv c3 c4 c5 : Value} {keys keys' : List Ky} {n : Nat} (h : Looked w w' G M e0 room kv c3 c4 c5 keys keys' n) : Out (fun b => b = G ∨ b = M ∨ kv.ownBlock = some b) w w' := by
  obtain ⟨_, _, _, _, _, _, _, _, _, h7⟩ := h
  exact h7

theorem look_end {w W2 wz w9 : World} {n room x : Int} {W lo hi e0 G B M H i m1 g9 cap : Nat} {kv gv : Value} {gs : List Value} {g g' : Tg} {k : Tw} {q : Ky} {l : List Ky} {keys' : List Ky} (h : TG w n room W lo hi e0 G B M H kv gs g) (hk : g.ws[i]? = some k) (hg : gs[i]? = some gv) (hl : k.left = q :: l)
    (hws : g'.ws = g.ws.set i ⟨q :: l, 2, k.got ++ [x]⟩) (hks : g'.keys = keys') (htm : g'.tm = g.tm + 1) (hoth : ∀ b, b < w.heap.size → b ≠ G → W2.heap[b]? = w.heap[b]?) (hout0 : Out (TS G B M H e0) w W2) (hw2 : w.heap.size < W2.heap.size)
    (hlk : Looked W2.drew wz G M e0 room kv (.map (some H)) (.slice (some ⟨B, 0, none⟩) W W) (.int .i64 ((g.tm : Int) + 1)) g.keys keys' m1) (hm1 : m1 ≤ g.tm) (ho9 : w9.ownsRow e0 3 1 (.slice (some ⟨g9, 0, none⟩) (k.got.length + 1) cap) (k.got.length + 1) (k.got.map (Value.int .i64) ++ [.int .i64 x])) (hgr : wz.grownBy w9 gv.ownBlock) (hat : gv.ownBlock = some g9 ∨ wz.heap.size ≤ g9) (hinv : ∀ D, HInv (sg n) D g → HInv (sg n) D g') :
    ∃ kv' gs', TG ((w9.setCell ⟨B, i * 3 + 2, none⟩ (.slice (some ⟨g9, 0, none⟩) (k.got.length + 1) cap)).setCell ⟨B, i * 3 + 1, none⟩ (.int .i64 2)) n room W lo hi e0 G B M H kv' gs' g' ∧ Out (TS G B M H e0) w ((w9.setCell ⟨B, i * 3 + 2, none⟩ (.slice (some ⟨g9, 0, none⟩) (k.got.length + 1) cap)).setCell ⟨B, i * 3 + 1, none⟩ (.int .i64 2)) := by
  obtain ⟨kv', D', m', hbx, hkz, hmz, hpz, hm', hkb, hzo⟩ := hlk
  have lG := h.lG
  have lB := h.lB
  have lH := h.lH
  have lM := h.lM
  have lh := h.lh
  have he := h.he
  have es := h.es
  have hown0 : ∀ q, kv.ownBlock = some q → e0 ≤ q ∧ q < w.heap.size := ownsRow_lo h.keys
  have hown1 : ∀ q, gv.ownBlock = some q → e0 ≤ q ∧ q < w.heap.size := ownsRow_lo (h.gots i k _ hk hg)
  have hown2 := ownsRow_lo hkz
  have hdr : W2.drew.heap.size = W2.heap.size := rfl
  have hzs : W2.heap.size ≤ wz.heap.size := hzo.size
  have h9s := hgr.size
  have hg9 : e0 ≤ g9 ∧ g9 < w9.heap.size := ownsRow_lo ho9 g9 rfl
  have hfin : ∀ b, b ≠ B → ((w9.setCell ⟨B, i * 3 + 2, none⟩ (.slice (some ⟨g9, 0, none⟩) (k.got.length + 1) cap)).setCell ⟨B, i * 3 + 1, none⟩ (.int .i64 2)).heap[b]? = w9.heap[b]? := fun b hb => (Below.heap_setCell _ ⟨B, i * 3 + 1, none⟩ _ b hb).trans (Below.heap_setCell w9 ⟨B, i * 3 + 2, none⟩ _ b hb)
  have h9 : ∀ b, b < w.heap.size → b ≠ G → b ≠ M → kv.ownBlock ≠ some b → gv.ownBlock ≠ some b → w9.heap[b]? = w.heap[b]? := fun b hb h1 h2 h3 h4 =>
    (hgr.block b (by omega) (fun e => h4 e.symm)).trans ((hzo.block b (by omega) (by rintro (e | e | e); exact h1 e; exact h2 e; exact h3 e)).trans (hoth b hb h1))
  have hlow : ∀ b, b < e0 → kv.ownBlock ≠ some b ∧ gv.ownBlock ≠ some b := fun b hb => ⟨fun e => by have := (hown0 b e).1; omega, fun e => by have := (hown1 b e).1; omega⟩
  have hGg : some G ≠ gv.ownBlock := fun e => (hlow G (by omega)).2 e.symm
  have hMg : some M ≠ gv.ownBlock := fun e => (hlow M (by omega)).2 e.symm
  have hkg : ∀ q, kv'.ownBlock = some q → gv.ownBlock ≠ some q := fun q hq e => by
    rcases hkb with e1 | ⟨q', e1, hl'⟩
    · exact h.apk i gv q hg (e1 ▸ hq) e
    · rw [hq] at e1; cases e1
      have := (hown1 q e).2
      omega
  obtain ⟨a, c, hcap, hsl, hpart⟩ := h.rows.part h.gl h.wl hk hg
  rw [hl] at hsl hcap hpart
  refine ⟨kv', _, h.step (i := i) (k := ⟨q :: l, 2, k.got ++ [x]⟩) (av := .slice a (q :: l).length c) (gv' := .slice (some ⟨g9, 0, none⟩) (k.got.length + 1) cap) hg hws htm ?_ ?_ ?_ ?_ ?_ ?_ ?_ ?_ ?_ ?_ ?_ ?_, ?_⟩
  · have := ((hbx.grown hgr hGg).setOther (a := ⟨B, i * 3 + 2, none⟩) h.GB (.slice (some ⟨g9, 0, none⟩) (k.got.length + 1) cap)).setOther (a := ⟨B, i * 3 + 1, none⟩) h.GB (.int .i64 2)
    rw [htm]
    have e : (((g.tm + 1 : Nat)) : Int) = (g.tm : Int) + 1 := by omega
    rw [e]
    exact this
  · rw [hks]
    exact ownsRow_agree hkz fun q hq => (hfin q (by have := (hown2 q hq).1; omega)).trans (hgr.block q (hown2 q hq).2 (fun e => hkg q hq e.symm))
  · refine ⟨D', m', ownsMap_agree hmz ((hfin M (Ne.symm h.BM)).trans (hgr.block M (ownsMap_lt hmz) hMg)), by rw [hks]; exact hpz, by omega⟩
  · obtain ⟨D, m, hD, hi, hm⟩ := h.lock
    exact ⟨D, m, ownsMap_agree hD ((hfin H (Ne.symm h.BH)).trans (h9 H (by omega) (Ne.symm h.GH) (Ne.symm h.MH) (hlow H (by omega)).1 (hlow H (by omega)).2)), hinv D hi, by omega⟩
  · have hp2 : TPart n lo hi w9 B W i gs g.ws (tcell k (.slice a (q :: l).length c) gv) := hpart.agree (fun b hb => h9 b (by rcases hb with rfl | hb <;> omega) (by rcases hb with rfl | hb; exact Ne.symm h.GB; omega) (by rcases hb with rfl | hb; exact h.BM; omega) (hlow b (by rcases hb with rfl | hb <;> omega)).1 (hlow b (by rcases hb with rfl | hb <;> omega)).2) (by omega)
    exact (hp2.put (j := 2) lB rfl (.slice (some ⟨g9, 0, none⟩) (k.got.length + 1) cap)).put (j := 1) lB rfl (.int .i64 2)
  · exact ⟨a, c, rfl, hcap, hsl.agree fun b h1 h2 => (hfin b (by omega)).trans (h9 b (by omega) (by omega) (by omega) (hlow b (by omega)).1 (hlow b (by omega)).2)⟩
  · have e : (k.got ++ [x]).length = k.got.length + 1 := by simp
    show World.ownsRow _ _ _ _ _ (k.got ++ [x]).length ((k.got ++ [x]).map (Value.int .i64))
    rw [e, List.map_append]
    exact ownsRow_agree ho9 fun q hq => by
      have hqe : q = g9 := (Option.some.inj hq).symm
      subst hqe
      exact hfin q (by omega)
  · simp; omega
  · exact fun b h1 h2 h3 h4 => (hfin b (by omega)).trans (h9 b h2 (by omega) (by omega) h3 h4)
  · rcases hkb with e | ⟨q', e, hl'⟩
    · exact .inl e
    · exact .inr ⟨q', e, by omega⟩
  · rcases hat with e | e
    · exact .inl e.symm
    · exact .inr ⟨g9, rfl, by omega⟩
  · intro q hq e
    have hqe : q = g9 := (Option.some.inj e).symm
    subst hqe
    rcases hat with e1 | e1
    · exact hkg q hq e1
    · rcases hkb with e2 | ⟨q', e2, hl'⟩
      · have := (hown0 q (e2 ▸ hq)).2
        omega
      · have := (hown2 q hq).2
        omega
  · have o1 : Out (TS G B M H e0) w wz := by
      refine hout0.drew.trans (hzo.mono fun b _ hb => ?_)
      rcases hb with e | e | e
      · exact .inl e
      · exact .inr (.inr (.inl e))
      · exact .inr (.inr (.inr (.inr (hown0 b e).1)))
    exact ((o1.grown hgr fun q hq => .inl (.inr (.inr (.inr (.inr (hown1 q hq).1))))).setCell (p := ⟨B, i * 3 + 2, none⟩) (.inl (.inr (.inl rfl))) _).setCell (p := ⟨B, i * 3 + 1, none⟩) (.inl (.inr (.inl rfl))) _

theorem step_plain {P : Program} {ops : Array Oper} {o : Oper} {a : Act} {w : World} {K : Act → World → Prop} {Q : Exit → Act → World → Prop} {E : Prop} (hgd : o.guard = none) (h : Oper.wp P o a w K Q) : if Region.wanted o (yielded ops a.tmps) = true then Oper.wp P o a w K Q else E := by
  rw [if_pos (by simp [Region.wanted, hgd])]; exact h
theorem gk_alloc {B j : Nat} {v : Value} {w : World} {o : Obj} (h : w.cell? ⟨B, j, none⟩ = some v ∧ w.frozen? ⟨B, j, none⟩ = false ∧ B < w.heap.size) : (w.alloc o).cell? ⟨B, j, none⟩ = some v ∧ (w.alloc o).frozen? ⟨B, j, none⟩ = false ∧ B < (w.alloc o).heap.size :=
  ⟨(World.cell?_of_block (Below.heap_alloc w o B h.2.2)).trans h.1, (World.frozen?_of_block (Below.heap_alloc w o B h.2.2)).trans h.2.1, by have := h.2.2; simp; omega⟩
theorem gk_grown {B j : Nat} {v : Value} {w w' : World} {row : Option Nat} (h : w.cell? ⟨B, j, none⟩ = some v ∧ w.frozen? ⟨B, j, none⟩ = false ∧ B < w.heap.size) (hg : w.grownBy w' row) (hn : some B ≠ row) : w'.cell? ⟨B, j, none⟩ = some v ∧ w'.frozen? ⟨B, j, none⟩ = false ∧ B < w'.heap.size :=
  ⟨(World.cell?_of_block (hg.block B h.2.2 hn)).trans h.1, (World.frozen?_of_block (hg.block B h.2.2 hn)).trans h.2.1, Nat.lt_of_lt_of_le h.2.2 hg.size⟩

set_option maxRecDepth 100000 in
set_option maxHeartbeats 4000000 in
/-- A key is looked for. -/
theorem go_look (w : World) (n room : Int) (W lo hi e0 G B M H : Nat) (kv : Value) (gs : List Value) (g : Tg) (h : TG w n room W lo hi e0 G B M H kv gs g) (i : Nat) (k : Tw) (q : Ky) (l : List Ky) (hk : g.ws[i]? = some k) (hl : k.left = q :: l) (hst : k.st = 1) (hf : kfit q) (hgn : k.got.length ≤ 1000000) (hkn : g.keys.length ≤ 1000000) (htm : g.tm ≤ 1000000) (hW : W ≤ 1000)
    (g' : Tg) (hws : g'.ws = g.ws.set i ⟨q :: l, 2, k.got ++ [(lookK room g.keys q).2]⟩) (hks : g'.keys = (lookK room g.keys q).1) (htm' : g'.tm = g.tm + 1) :
    Calls Tryd.prog 48 #[.pointer (some ⟨G, 0, none⟩), .int .i64 (i : Int)] w fun e w' => e = .returned (.tuple #[]) ∧ ∃ kv' gs', TG w' n room W lo hi e0 G B M H kv' gs' g' ∧ Out (TS G B M H e0) w w' := by
  have hi' : i < W := by rw [← h.wl]; exact (List.getElem?_eq_some_iff.1 hk).1
  obtain ⟨gv, hg⟩ : ∃ gv, gs[i]? = some gv := ⟨_, List.getElem?_eq_getElem (by rw [h.gl]; exact hi')⟩
  obtain ⟨ga, gc, rfl⟩ := ownsRow_shape (h.gots i k gv hk hg)
  obtain ⟨a, c, hcap, hsl, hpart⟩ := h.rows.part h.gl h.wl hk hg
  rw [hl] at hsl hcap hpart
  obtain ⟨b, off, rfl, hb1, hb2, hat⟩ := hsl.at (by simp)
  obtain ⟨a0, a1, a2, a3⟩ := hat.ask
  have hll : (q :: l).length = l.length + 1 := rfl
  rw [hll] at hpart hsl hcap
  obtain ⟨t, ht⟩ : ∃ t, t = g.tm := ⟨_, rfl⟩
  have hbox := h.box
  rw [← ht] at hbox htm htm'
  have w1 : IntKind.i64.wrap ((t : Int) + 1) = (t : Int) + 1 := IntWalk.i64_in _ (by omega)
  have htc : ((g'.tm : Nat) : Int) = (t : Int) + 1 := by rw [htm']; omega
  have lG := h.lG
  have lB := h.lB
  have lH := h.lH
  have lM := h.lM
  have lh := h.lh
  have he := h.he
  have es := h.es
  have hbw : b < w.heap.size := by omega
  have hGw : G < w.heap.size := by omega
  have hBw : B < w.heap.size := by omega
  have nGB := h.GB
  have nGH := h.GH
  have nGM := h.GM
  have nBH := h.BH
  have nbG : b ≠ G := by omega
  have nbB : b ≠ B := by omega
  have nbH : b ≠ H := by omega
  obtain ⟨_, _, _, _, _, _⟩ := hbox.six
  obtain ⟨_, _, _, _, _, _⟩ := hbox.sixf
  obtain ⟨d0, _⟩ := hpart.cell 0 _ rfl
  obtain ⟨d1, f1⟩ := hpart.cell 1 _ rfl
  obtain ⟨d2, f2⟩ := hpart.cell 2 _ rfl
  rw [hst] at d1
  simp only [Nat.add_zero] at d0
  obtain ⟨j, hj⟩ : ∃ j, j = i * 3 := ⟨_, rfl⟩
  rw [← hj] at d0 d1 f1 d2 f2
  obtain ⟨gn, hgne⟩ : ∃ gn, k.got.length = gn := ⟨_, rfl⟩
  rw [hgne] at d2 hgn
  have hi0 : (0 : Int) ≤ (i : Int) := by omega
  have hi1 : (i : Int) < (W : Int) := by omega
  have T2 : ∀ W0, Sem.run Tryd.prog (Instr.indexAt 112 (.slice (some ⟨B, 0, none⟩) W W) (.int .i64 (i : Int))) W0 = .ok (.pointer (some ⟨B, j, none⟩)) W0 := fun W0 => by rw [hj]; go_simp
  obtain ⟨z, hz⟩ : ∃ z, sg n q = z := ⟨_, rfl⟩
  have hzf := sg_fit n q
  have HINV : Hid (∀ D, HInv (sg n) D g → HInv (sg n) D g') := fun D hD => by
    refine hinv_stay hD (by rw [h.wl]; exact hi') hws (fun q' hq' => ?_)
    rw [hk] at hq'; cases hq'
    unfold Tw.hold
    rw [if_neg (by omega), if_neg (by simp), hl]
  have HIX : Hid (∀ W', W'.heap = W'.heap → TG W' n room W lo hi e0 G B M H kv gs g → True) := fun _ _ _ => trivial
  obtain ⟨x, hxx⟩ : ∃ x, (lookK room g.keys q).2 = x := ⟨_, rfl⟩
  obtain ⟨keys', hkk⟩ : ∃ ks, (lookK room g.keys q).1 = ks := ⟨_, rfl⟩
  rw [hxx] at hws
  rw [hkk] at hks
  rw [hz] at a3 hzf
  obtain ⟨s, ka, kb⟩ := q
  dsimp only at a0 a1 a2
  obtain ⟨D, m, hD, hinv, hm⟩ := h.lock
  obtain ⟨D1, m1, hD1, hp1, hm1⟩ := h.map
  -- the world behind the first regions
  have hx := Box.new (w.setCell ⟨G, 5, none⟩ (.int .i64 ((t : Int) + 1))) 145 [.string s, .int .i64 ka, .int .i64 kb, .int .i64 z]
  have hbg := (hbox.set 5 (.int .i64 ((t : Int) + 1))).alloc (.cells #[.string s, .int .i64 ka, .int .i64 kb, .int .i64 z] 145)
  have hMm : ((w.setCell ⟨G, 5, none⟩ (.int .i64 ((t : Int) + 1))).alloc (.cells #[.string s, .int .i64 ka, .int .i64 kb, .int .i64 z] 145)).ownsMap Tryd.prog 57 (plainElem Tryd.prog 3) M m1 D1 := (hD1.setCell (a := ⟨G, 5, none⟩) (Ne.symm nGM) _).alloc _
  have hw2 : ((w.setCell ⟨G, 5, none⟩ (.int .i64 ((t : Int) + 1))).alloc (.cells #[.string s, .int .i64 ka, .int .i64 kb, .int .i64 z] 145)).heap.size = w.heap.size + 1 := by simp
  have hout : Out (TS G B M H e0) w ((w.setCell ⟨G, 5, none⟩ (.int .i64 ((t : Int) + 1))).alloc (.cells #[.string s, .int .i64 ka, .int .i64 kb, .int .i64 z] 145)) := ((Out.refl _ w).setCell (p := ⟨G, 5, none⟩) (.inl (.inl rfl)) _).alloc _
  simp only [List.set_cons_succ, List.set_cons_zero] at hbg
  simp only [List.toArray, World.size_setCell] at hx
  have e1 : ((w.setCell ⟨G, 5, none⟩ (.int .i64 ((t : Int) + 1))).alloc (.cells #[.string s, .int .i64 ka, .int .i64 kb, .int .i64 z] 145)).cell? ⟨B, j + 1, none⟩ = some (.int .i64 1) := (World.cell?_of_block ((Below.heap_alloc _ _ B (by simpa using hBw)).trans (Below.heap_setCell w ⟨G, 5, none⟩ _ B (Ne.symm nGB)))).trans d1
  have e2 : ((w.setCell ⟨G, 5, none⟩ (.int .i64 ((t : Int) + 1))).alloc (.cells #[.string s, .int .i64 ka, .int .i64 kb, .int .i64 z] 145)).frozen? ⟨B, j + 1, none⟩ = false := (World.frozen?_of_block ((Below.heap_alloc _ _ B (by simpa using hBw)).trans (Below.heap_setCell w ⟨G, 5, none⟩ _ B (Ne.symm nGB)))).trans f1
  have e3 : ((w.setCell ⟨G, 5, none⟩ (.int .i64 ((t : Int) + 1))).alloc (.cells #[.string s, .int .i64 ka, .int .i64 kb, .int .i64 z] 145)).cell? ⟨B, j + 2, none⟩ = some (.slice ga gn gc) := (World.cell?_of_block ((Below.heap_alloc _ _ B (by simpa using hBw)).trans (Below.heap_setCell w ⟨G, 5, none⟩ _ B (Ne.symm nGB)))).trans d2
  have e4 : ((w.setCell ⟨G, 5, none⟩ (.int .i64 ((t : Int) + 1))).alloc (.cells #[.string s, .int .i64 ka, .int .i64 kb, .int .i64 z] 145)).frozen? ⟨B, j + 2, none⟩ = false := (World.frozen?_of_block ((Below.heap_alloc _ _ B (by simpa using hBw)).trans (Below.heap_setCell w ⟨G, 5, none⟩ _ B (Ne.symm nGB)))).trans f2
  have HOTH : Hid (∀ b, b < w.heap.size → b ≠ G → ((w.setCell ⟨G, 5, none⟩ (.int .i64 ((t : Int) + 1))).alloc (.cells #[.string s, .int .i64 ka, .int .i64 kb, .int .i64 z] 145)).heap[b]? = w.heap[b]?) := fun b hb hn => (Below.heap_alloc _ _ b (by simpa using hb)).trans (Below.heap_setCell w ⟨G, 5, none⟩ _ b hn)
  generalize hW2 : (w.setCell ⟨G, 5, none⟩ (.int .i64 ((t : Int) + 1))).alloc (.cells #[.string s, .int .i64 ka, .int .i64 kb, .int .i64 z] 145) = W2 at *
  obtain ⟨i0, hi0', hz0, hz1, hz2⟩ := info_parts Tryd.info3
  have hBW : B < W2.heap.size := by omega
  have hGW : G < W2.heap.size := by omega
  have hwx : w.heap.size < W2.heap.size := by omega
  have hown0 : ∀ q, kv.ownBlock = some q → e0 ≤ q ∧ q < w.heap.size := ownsRow_lo h.keys
  have hown1 : ∀ q, (Value.slice ga k.got.length gc).ownBlock = some q → e0 ≤ q ∧ q < w.heap.size := ownsRow_lo (h.gots i k _ hk hg)
  have hapk := fun q => h.apk i _ q hg
  have hkW : W2.ownsRow e0 57 3 kv g.keys.length (g.keys.flatMap kcell) := ownsRow_agree h.keys fun q hq => HOTH.out q (hown0 q hq).2 (by have := (hown0 q hq).1; omega)
  have hgW : W2.ownsRow e0 3 1 (.slice ga k.got.length gc) k.got.length (k.got.map (Value.int .i64)) := ownsRow_agree (h.gots i k _ hk hg) fun q hq => HOTH.out q (hown1 q hq).2 (by have := (hown1 q hq).1; omega)
  rw [hgne] at hgW hown1 hapk
  have hIX := index_any W2.drew G M e0 room kv (.map (some H)) (.slice (some ⟨B, 0, none⟩) W W) (.int .i64 ((t : Int) + 1)) g.keys m1 D1 ⟨s, ka, kb⟩ hbg.drew hkW hMm hp1 (by omega) hkn hf (by omega) (by omega) nGM (by have : W2.drew.heap.size = W2.heap.size := rfl; omega) x hxx keys' hkk
  have HIX2 : Hid (Calls Tryd.prog 70 #[.pointer (some ⟨G, 0, none⟩), .agg #[.string s, .int .i64 ka, .int .i64 kb]] W2.drew fun e w' => e = .returned (.int .i64 x) ∧ Looked W2.drew w' G M e0 room kv (.map (some H)) (.slice (some ⟨B, 0, none⟩) W W) (.int .i64 ((t : Int) + 1)) g.keys keys' m1) := hIX
  have HNEW : Hid (∀ (W : World) (q : Nat) (u : Value), ([.int .i64 x] : List Value)[q]? = some u → (W.alloc (.cells #[.int .i64 x] 3)).cell? (Addr.add ⟨W.heap.size, 0, none⟩ q) = some u) := fun W q u hq =>
    World.news_of_block (w := W.alloc (.cells #[.int .i64 x] 3)) (B := W.heap.size) (cs := #[.int .i64 x]) (Box.new W 3 [.int .i64 x]) q u (by simpa using hq)
  have HONE : Hid (∀ v ∈ ([.int .i64 x] : List Value), v.oneCell' = true) := by
    intro v hv; simp at hv; subst hv; rfl
  have Q1 : Hid (gn + 1 ≤ maxLen) := by unfold maxLen; show _ ≤ _; omega
  have Q2 : Hid ((gn + 1) * 8 ≤ 140737488355328) := by show _ ≤ _; omega
  have HGB' : Hid (some B ≠ (Value.slice ga gn gc).ownBlock) := fun e => by have := (hown1 B e.symm).1; omega
  obtain ⟨_, _, _, _⟩ := hx.four
  obtain ⟨_, _, _, _, _, _⟩ := hbg.six
  have HNB : Hid (¬ (B = G ∨ B = M ∨ kv.ownBlock = some B)) := by
    rintro (e | e | e)
    · exact nGB e.symm
    · exact h.BM e
    · have := (hown0 B e).1; omega
  have HNQ : Hid (∀ q, (Value.slice ga gn gc).ownBlock = some q → ¬ (q = G ∨ q = M ∨ kv.ownBlock = some q)) := fun q hq => by
    rintro (e | e | e)
    · have := (hown1 q hq).1; omega
    · have := (hown1 q hq).1; omega
    · exact hapk q e hq
  have HH := Lib.hid h
  have HP := Lib.hid hpart
  have HSL := Lib.hid hsl
  have HHG := Lib.hid hg
  have HHK := Lib.hid hk
  have HKL := Lib.hid hl
  have HHT := Lib.hid ht
  have HJ := Lib.hid hj
  have HWS := Lib.hid hws
  have HKS := Lib.hid hks
  have HTM' := Lib.hid htm'
  have HTC := Lib.hid htc
  have HCAP := Lib.hid hcap
  have HGW := Lib.hid hgW
  have HO0 := Lib.hid hown0
  have HO1 := Lib.hid hown1
  have HAPK := Lib.hid hapk
  have HGNE := Lib.hid hgne
  have HINV2 := Lib.hid (HINV.out D hinv)
  have HOUT0 := Lib.hid hout
  have HM1 := Lib.hid hm1
  have HM2 := Lib.hid hm
  have HDH := Lib.hid hD
  clear htc h hpart hsl hg hk ht hj hws hks htm' hcap hout hinv hMm hbg hx hbox hat hD hzf hz hst hl hw2 hll hm hf hkW hgW hown0 hown1 hapk hgne hxx hkk hIX hp1 hD1 hm1 HIX
  go_enter Tryd.func48, Tryd.ntmps48
  go_upto_region 7 with fail
  go_region_law (first
      | (refine step_append_lies _ rfl _ _ _ rfl e0 3 i0 (.int .i64 0) 1 8 Tryd.underlying22 hi0' hz0 hz1 hz2 rfl (by decide) _ gn (k.got.map (Value.int .i64)) rfl (HGZ.out.alloc _) ⟨wz.heap.size, 0, none⟩ 1 1 [.int .i64 x] rfl rfl (HNEW.out _) HONE.out (by decide) Q1.out Q2.out (by simpa using Nat.le_succ_of_le Q3.out) _ rfl ?_; intro g9 cap w9 hown9 hgrow hat9 hlt9; have HO9 := Lib.hid hown9; have HAT9 : Hid ((Value.slice ga gn gc).ownBlock = some g9 ∨ wz.heap.size ≤ g9) := (by rcases hat9 with q | q; exact .inl q; exact .inr (by rw [q]; show wz.heap.size ≤ (wz.alloc _).heap.size; simp)); have HGR9 : Hid (wz.grownBy w9 (Value.slice ga gn gc).ownBlock) := grown_al (w := wz) (o := .cells #[.int .i64 x] 3) hgrow rfl rfl rfl rfl; have h9B : w9.heap[B]? = W2.heap[B]? := (HGR9.out.block B hBz HGB'.out).trans HZB.out; have v2 := (World.cell?_of_block (w := W2) (a := ⟨B, j + 2, none⟩) h9B).trans e3; have v4 := (World.frozen?_of_block (w := W2) (a := ⟨B, j + 2, none⟩) h9B).trans e4; have hB9 : B < w9.heap.size := Nat.lt_of_lt_of_le hBz HGR9.out.size; have H9B := Lib.hid h9B; clear hown9 hat9 hgrow h9B)
      | (refine step_plain rfl ?_; go_simp; go_at_call 70; (with_reducible refine (HIX2.out).mono ?_); rintro e wz ⟨rfl, HLK⟩; have hzo : Out (fun b => b = G ∨ b = M ∨ kv.ownBlock = some b) W2.drew wz := HLK.out7; have hzB : wz.heap[B]? = W2.heap[B]? := hzo.block B hBW HNB.out; have hzs := hzo.size; have y2 := (World.cell?_of_block (w := W2) (a := ⟨B, j + 2, none⟩) hzB).trans e3; have hBz : B < wz.heap.size := Nat.lt_of_lt_of_le hBW hzs; have HGZ : Hid (wz.ownsRow e0 3 1 (.slice ga gn gc) gn (k.got.map (Value.int .i64))) := ownsRow_agree HGW.out (fun q hq => hzo.block q (Nat.lt_trans (HO1.out q hq).2 hwx) (HNQ.out q hq)); have Q3 : Hid (e0 ≤ wz.heap.size) := Nat.le_trans (Nat.le_trans es (Nat.le_of_lt hwx)) hzs; have HLKH := Lib.hid HLK; have HZO := Lib.hid hzo; have HZB := Lib.hid hzB; clear HLK hzo hzB))
  all_goals (
    have v1 := (World.cell?_of_block (w := W2) (a := ⟨B, j + 1, none⟩) H9B.out).trans e1
    have v3 := (World.frozen?_of_block (w := W2) (a := ⟨B, j + 1, none⟩) H9B.out).trans e2
    go_wp2_with fail
    go_end0
    refine ⟨rfl, ?_⟩
    have hfinal := look_end (w := w) (W2 := W2) (wz := wz) (w9 := w9) (g9 := g9) (cap := cap) (x := x) (m1 := m1) HH.out HHK.out HHG.out HKL.out HWS.out HKS.out (by rw [HTM'.out, HHT.out]) HOTH.out HOUT0.out hwx (by rw [← HHT.out]; exact HLKH.out) HM1.out (by rw [HGNE.out]; exact HO9.out) (by rw [HGNE.out]; exact HGR9.out) (by rw [HGNE.out]; exact HAT9.out) HINV.out
    rw [HGNE.out, ← HJ.out] at hfinal
    exact hfinal)

end Go.Proofs.YthhcchdjeeigpaaDoor
