/- Package wave: between. -/
import Derived.Test.YtdbjmonboecfgaaVb
import Derived.Test.YtdbjmonboecfgaaGmk
namespace Go.Proofs.Ytdbjmonboecfgaa
open Go.RowKit Go.Maps
set_option linter.unusedVariables false
set_option linter.unusedSimpArgs false

theorem Try.zeroUnit (w : World) : (zeroValue 57).run Try.prog w = .ok (.agg #[]) w := by kernel_rfl
/-- Memory in which between works, just laid. -/
structure BT (w1 wx : World) (m eb fo lo : Nat) : Prop where
  box : Box wx eb 42 [.slice (some ⟨fo, 0, none⟩) m m, .slice (some ⟨lo, 0, none⟩) m m]
  grd : wx.heap[fo]? = some (.cells (List.replicate m (Value.slice none 0 0)).toArray 26)
  lef : wx.heap[lo]? = some (.cells (List.replicate m (Value.int .i64 0)).toArray 3)
  nd : eb ≠ fo ∧ eb ≠ lo ∧ lo ≠ fo
  lo_ : w1.heap.size ≤ eb ∧ w1.heap.size ≤ fo ∧ w1.heap.size ≤ lo
  bel : Below w1.heap.size w1 wx

/-- The look-up in a set, its answer known. -/
theorem wpList_lookup_val {P : Program} (w : World) {ops : Array Oper} {rest : List Oper} {o : Oper} {a : Act} {Q : Exit → Act → World → Prop} (hg : o.guard = none) (m x : Operand) (t : TypeId) (hop : o.op = Op.lookup t m x true)
    (k e : TypeId) (K : Keyed P k) (ht : P.underlying t = some (.map k e)) (hz : (zeroValue e).run P w = .ok (.agg #[]) w) (b n : Nat) (D : DataW Unit)
    (hm : a.eval m = .map (some b)) (hown : w.ownsMap P k unitElem b n D) (key : Value) (kl : Lit) (hx : a.eval x = key) (hkey : keyOf P k key = some kl) (v : Bool) (hv : Maps.has D kl = v)
    (hK : wpList P ops Q rest (a.put o.dst (.tuple #[.agg #[], .bool v])) w) : wpList P ops Q (o :: rest) a w :=
  wpList_lookup_own_unit w hg m x t hop k e K ht hz b n D hm hown key kl hx hkey (hv ▸ hK)
theorem alloc3 (w : World) (o1 o2 o3 : Obj) : (((w.alloc o1).alloc o2).alloc o3).heap[w.heap.size]? = some o1 ∧ (((w.alloc o1).alloc o2).alloc o3).heap[w.heap.size + 1]? = some o2 ∧ (((w.alloc o1).alloc o2).alloc o3).heap[w.heap.size + 1 + 1]? = some o3 := by
  have s1 := World.size_alloc w o1
  have s2 := World.size_alloc (w.alloc o1) o2
  have a1 := alloc_at w o1
  have a2 := alloc_at (w.alloc o1) o2
  have a3 := alloc_at ((w.alloc o1).alloc o2) o3
  rw [s1] at a2
  rw [s2, s1] at a3
  refine ⟨?_, ?_, a3⟩
  · rw [Below.heap_alloc _ _ _ (by omega), Below.heap_alloc _ _ _ (by omega), a1]
  · rw [Below.heap_alloc _ _ _ (by omega), a2]
theorem bt_done {w1 wx : World} {m eb fo lo : Nat} {MR MB : Array Value} (hMR : (List.replicate m (Value.slice none 0 0)).toArray = MR) (hMB : (List.replicate m (Value.int .i64 0)).toArray = MB) (h1 : wx.heap[eb]? = some (.cells #[.slice (some ⟨fo, 0, none⟩) m m, .slice (some ⟨lo, 0, none⟩) m m] 42)) (h2 : wx.heap[fo]? = some (.cells MR 26)) (h3 : wx.heap[lo]? = some (.cells MB 3)) (hd : eb ≠ fo ∧ eb ≠ lo ∧ lo ≠ fo) (hl : w1.heap.size ≤ eb ∧ w1.heap.size ≤ fo ∧ w1.heap.size ≤ lo) (hB : Below w1.heap.size w1 wx) : BT w1 wx m eb fo lo := by
  subst hMR hMB
  exact ⟨h1, h2, h3, hd, hl, hB⟩
/-- Block b is a set of just these pairs. -/
def EP (w : World) (b : Nat) (P : PL) : Prop := ∃ D, w.ownsMap Try.prog 53 (unitElem (H := Unit)) b P.length D ∧ IsMap D ∧ ∀ (x y : Nat) (kl : Lit), x ≤ 1000000 → y ≤ 1000000 → keyOf Try.prog 53 (.agg #[.int .i64 (x : Int), .int .i64 (y : Int)]) = some kl → (Maps.has D kl = true ↔ (x, y) ∈ P)
theorem EP.agree {w w' : World} {b : Nat} {P : PL} (h : EP w b P) (hb : w'.heap[b]? = w.heap[b]?) : EP w' b P := by
  obtain ⟨D, h1, h2⟩ := h; exact ⟨D, ownsMap_agree h1 hb, h2⟩
theorem EP.lt {w : World} {b : Nat} {P : PL} (h : EP w b P) : b < w.heap.size := by
  obtain ⟨D, h1, h2⟩ := h; exact h1.lt
theorem EP.made (w : World) : EP (w.alloc (.map #[] 0)) w.heap.size [] := ⟨_, World.ownsMap_made _ _ _ _, isMap_empty, fun x y kl _ _ _ => by simp [Maps.has]⟩
theorem EP.look {w : World} {b : Nat} {P : PL} (h : EP w b P) {s t : Nat} (hs : s ≤ 1000000) (ht : t ≤ 1000000) : ∃ D kl, w.ownsMap Try.prog 53 (unitElem (H := Unit)) b P.length D ∧ keyOf Try.prog 53 (.agg #[.int .i64 (s : Int), .int .i64 (t : Int)]) = some kl ∧ Maps.has D kl = decide ((s, t) ∈ P) ∧ ∀ w', w'.ownsMap Try.prog 53 (unitElem (H := Unit)) b (P.length + 1) (D.put kl (.agg [])) → EP w' b (P ++ [(s, t)]) := by
  obtain ⟨D, hm, hi, hk⟩ := h
  obtain ⟨kl, hkl, _⟩ := pair_key (fits_nat hs) (fits_nat ht)
  refine ⟨D, kl, hm, hkl, ?_, fun w' h' => ⟨D.put kl (.agg []), ?_, hi.put _ _, fun x y kl' hx hy hk' => ?_⟩⟩
  · have := hk s t kl hs ht hkl
    cases e : Maps.has D kl with
    | true => exact (decide_eq_true (this.1 e)).symm
    | false => exact (decide_eq_false (fun q => by rw [this.2 q] at e; cases e)).symm
  · rw [List.length_append]; exact h'
  · have hl := Try.pairKeyed.key hkl
    rw [List.mem_append, List.mem_singleton]
    by_cases e : x = s ∧ y = t
    · obtain ⟨rfl, rfl⟩ := e
      rw [hkl] at hk'
      obtain rfl := Option.some.inj hk'
      rw [has_put_same hi hl]
      simp
    · rw [has_put_other (pairKl_ne hkl hk' e), hk x y kl' hx hy hk']
      have : ¬ (x, y) = (s, t) := fun q => e (by simpa using q)
      simp [this]
/-- Memory in which between works. -/
structure BM (w1 wx : World) (B m eb fo lo mb : Nat) (P : PL) (vs : List Value) : Prop where
  eb_ : EB wx B fo lo m [lo, eb, mb] vs P
  box : Box wx eb 42 [.slice (some ⟨fo, 0, none⟩) m m, .slice (some ⟨lo, 0, none⟩) m m]
  mp : EP wx mb P
  bel : Below B w1 wx
  dis : eb ≠ lo ∧ mb ≠ lo ∧ mb ≠ eb
  mb_ : B ≤ mb
section
variable {w1 wx w' : World} {B m eb fo lo mb : Nat} {P : PL} {vs : List Value}
theorem BM.size (h : BM w1 wx B m eb fo lo mb P vs) : B ≤ wx.heap.size := Nat.le_trans h.eb_.bl (Nat.le_of_lt (h.eb_.xf lo h.eb_.lx).1)
theorem BM.below (h : BM w1 wx B m eb fo lo mb P vs) (hb : Below wx.heap.size wx w') : BM w1 w' B m eb fo lo mb P vs :=
  ⟨h.eb_.below hb, h.box.below hb, h.mp.agree (hb.block _ h.mp.lt), h.bel.trans (hb.mono h.size), h.dis, h.mb_⟩
end
theorem EB.agree {w w' : World} {base fo lo m : Nat} {X : List Nat} {vs : List Value} {P : PL} (h : EB w base fo lo m X vs P) (hb : ∀ r, base ≤ r → r < w.heap.size → w'.heap[r]? = w.heap[r]?) (hs : w.heap.size ≤ w'.heap.size) : EB w' base fo lo m X vs P :=
  ⟨h.grd.agree (fun q hq => hb q (ownsRow_lo h.grd.own q hq).1 (ownsRow_lo h.grd.own q hq).2) (fun i hi q hq => hb q (ownsRow_lo (h.grd.row i hi) q hq).1 (ownsRow_lo (h.grd.row i hi) q hq).2), (hb lo h.bl (h.xf lo h.lx).1).trans h.box, h.ap, h.lx, h.bl, fun r hr => ⟨Nat.lt_of_lt_of_le (h.xf r hr).1 hs, (h.xf r hr).2⟩⟩
theorem EB.grown {w w' : World} {base fo lo m mb : Nat} {X : List Nat} {vs : List Value} {P : PL} (h : EB w base fo lo m X vs P) (hg : w.grownBy w' (some mb)) (hm : mb ∈ X) (hne : mb ≠ lo) : EB w' base fo lo m X vs P := by
  have hfo := (h.xf mb hm).2
  refine ⟨h.grd.agree (fun q hq => hg.block q (ownsRow_lo h.grd.own q hq).2 (fun e => ?_)) (fun i hi q hq => hg.block q (ownsRow_lo (h.grd.row i hi) q hq).2 (fun e => ?_)), (hg.block lo (h.xf lo h.lx).1 (fun e => hne (Option.some.inj e).symm)).trans h.box, h.ap, h.lx, h.bl, fun r hr => ⟨Nat.lt_of_lt_of_le (h.xf r hr).1 hg.size, (h.xf r hr).2⟩⟩
  · cases hq; exact hfo (Option.some.inj e).symm
  · rw [fromL_len] at hi
    have := h.ap i hi q hq
    rw [Option.some.inj e] at this
    exact this hm
theorem BM.grown {w1 wx w' : World} {B m eb fo lo mb : Nat} {P : PL} {vs : List Value} (h : BM w1 wx B m eb fo lo mb P vs) (hg : wx.grownBy w' (some mb)) : EB w' B fo lo m [lo, eb, mb] vs P ∧ Box w' eb 42 [.slice (some ⟨fo, 0, none⟩) m m, .slice (some ⟨lo, 0, none⟩) m m] ∧ Below B w1 w' :=
  ⟨h.eb_.grown hg (by simp) h.dis.2.1, h.box.grown hg (fun e => h.dis.2.2 (Option.some.inj e).symm), h.bel.grown hg h.size fun p hp => by cases hp; exact h.mb_⟩
theorem BT.start {w1 wx : World} {m eb fo lo : Nat} (h : BT w1 wx m eb fo lo) (hm : m ≤ 1000000) : BM w1 (wx.alloc (.map #[] 0)) w1.heap.size m eb fo lo wx.heap.size [] (List.replicate m (Value.slice none 0 0)) := by
  have hfo : fo < wx.heap.size := (Array.getElem?_eq_some_iff.1 h.grd).1
  have hlo : lo < wx.heap.size := (Array.getElem?_eq_some_iff.1 h.lef).1
  have heb := h.box.lt
  have hv : ∀ i, vg (List.replicate m (Value.slice none 0 0)) i = .slice none 0 0 := fun i => by
    unfold vg; rw [List.getD_eq_getElem?_getD, List.getElem?_replicate]; split <;> rfl
  have hr : ∀ i, rowG (List.replicate m []) i = [] := fun i => by
    unfold rowG; rw [List.getD_eq_getElem?_getD, List.getElem?_replicate]; split <;> rfl
  refine ⟨⟨?_, ?_, fun i hi q hq => (by rw [hv] at hq; cases hq), by simp, h.lo_.2.2, fun r hr => ?_⟩, h.box.alloc _, EP.made _, h.bel.alloc h.bel.size _, ⟨h.nd.2.1, by omega, by omega⟩, h.bel.size⟩
  · rw [fromL_nil]
    refine ⟨?_, fun i hi => by rw [hv, hr]; exact World.ownsRow_nil _ _ _ _, fun i hi q hq => (by rw [hv] at hq; cases hq), fun i j _ hi hj q hq => (by rw [hv] at hq; cases hq)⟩
    rw [List.length_replicate]
    exact ⟨by simp, .inr ⟨fo, m, _, rfl, h.lo_.2.1, (Below.heap_alloc _ _ _ hfo).trans h.grd, Nat.le_refl _, by unfold maxLen; omega, by simp, by simp⟩⟩
  · rw [leftL_nil]
    have e : List.replicate m (Value.int .i64 0) = intsOf (List.replicate m 0) := by simp [intsOf]
    have := h.lef
    rw [e] at this
    exact Box.alloc (cs := intsOf (List.replicate m 0)) this _
  · simp only [List.mem_cons, List.not_mem_nil, or_false] at hr
    rw [World.size_alloc]
    rcases hr with rfl | rfl | rfl
    · exact ⟨by omega, h.nd.2.2⟩
    · exact ⟨by omega, h.nd.1⟩
    · exact ⟨by omega, by omega⟩
theorem BI.len {g : Gr} {x j : Nat} {P : PL} (h : BI g x j P) {m : Nat} (hm : (grpL g).length = m) : P.length ≤ m * m := by
  have h1 : (P.map fun p => p.1 * m + p.2).Nodup := by
    refine List.pairwise_map.2 (List.Pairwise.imp_of_mem ?_ h.nd)
    rintro ⟨a, b⟩ ⟨c, d⟩ hp hq hn e
    have hb := (h.lt hp).2
    have hd := (h.lt hq).2
    rw [hm] at hb hd
    dsimp only at e
    have e1 : a = c := by
      have h1 : (a * m + b) / m = a := by rw [Nat.mul_comm, Nat.mul_add_div (by omega), Nat.div_eq_of_lt hb]; omega
      have h2 : (c * m + d) / m = c := by rw [Nat.mul_comm, Nat.mul_add_div (by omega), Nat.div_eq_of_lt hd]; omega
      rw [← h1, ← h2, e]
    subst e1
    exact hn (by rw [show b = d by omega])
  have h2 := nd_lt h1 (m := m * m) fun x hx => by
    obtain ⟨⟨a, b⟩, hp, rfl⟩ := List.mem_map.1 hx
    obtain ⟨ha, hb⟩ := h.lt hp
    rw [hm] at ha hb
    have : (a + 1) * m ≤ m * m := Nat.mul_le_mul_right m ha
    rw [Nat.succ_mul] at this
    dsimp only; omega
  simpa using h2

set_option maxRecDepth 100000 in
set_option maxHeartbeats 8000000 in
theorem between_any {hi : Nat} (ag : Option Addr) (n cg : Nat) (g : Gr) (w : World) (hg : GI hi w ag n g) (hh : hi ≤ w.heap.size) (hn : n ≤ 10000) :
    Calls Try.prog 25 #[.slice ag n cg] w fun e w' => Below w.heap.size w w' ∧ ∃ B fo lo vs P X, e = .returned (.agg #[.slice (some ⟨fo, 0, none⟩) (grpL g).length (grpL g).length, .slice (some ⟨lo, 0, none⟩) (grpL g).length (grpL g).length]) ∧ EB w' B fo lo (grpL g).length X vs P ∧ w.heap.size ≤ B ∧ BI g g.length 0 P := by
  have hmm := @run_makeMap Try.prog
  have HGL := Lib.hid hg.1
  have HGI := Lib.hid hg
  obtain ⟨m, hm⟩ : ∃ m, (grpL g).length = m := ⟨_, rfl⟩
  have hmn : m ≤ 10000 := by
    have h9 : (grpL g).length ≤ g.length := grpI_len
    rw [hm] at h9
    have := HGL.out
    omega
  have HPL : Hid (∀ W, Below w.heap.size w W → Calls Try.prog 31 #[.slice ag n cg] W fun e w' => Below W.heap.size W w' ∧ ∃ q, e = .returned (.tuple #[.slice (some ⟨q, 0, none⟩) n n, .int .i64 (m : Int)]) ∧ W.heap.size ≤ q ∧ Box w' q 3 (intsOf (gofL g))) := fun W hb => by
    have h9 := places_any ag n cg g W (hg.below hb hh) (Nat.le_trans hh hb.size) hn
    rwa [hm] at h9
  obtain ⟨i0, hi0, hz0, hz1, hz2⟩ := info_parts Try.info3
  obtain ⟨j0, hj0, hy0, hy1, hy2⟩ := info_parts Try.gRowInfo
  have hmk : ∀ W : World, (Instr.makeSlice 26 (.int .i64 (m : Int)) (.int .i64 (m : Int))).run Try.prog W = .ok (.slice (some ⟨W.heap.size, 0, none⟩) m m) (W.alloc (.cells (List.replicate m (Value.int .i64 0)).toArray 3)) := fun W => by
    have h := run_make (P := Try.prog) W 26 3 i0 (.int .i64 0) Try.underlying26 hi0 hz0 .i64 .i64 (m : Int) (m : Int) (by omega) (by omega) (by rw [hz2]; omega) (by omega)
    rw [hz1] at h
    have hm : madeCells (Value.int .i64 0).cells (((m : Nat) : Int).toNat * 1) = (List.replicate m (Value.int .i64 0)).toArray := by
      apply Array.ext'
      have := toList_madeCells_one (Value.int .i64 0) m
      rw [show (Value.int .i64 0).cells = #[Value.int .i64 0] from rfl]
      simpa using this
    rw [hm] at h
    simpa using h
  have hmk2 : ∀ W : World, (Instr.makeSlice 23 (.int .i64 (m : Int)) (.int .i64 (m : Int))).run Try.prog W = .ok (.slice (some ⟨W.heap.size, 0, none⟩) m m) (W.alloc (.cells (List.replicate m (Value.slice none 0 0)).toArray 26)) := fun W => by
    have h := run_make (P := Try.prog) W 23 26 j0 (.slice none 0 0) Try.underlying23 hj0 hy0 .i64 .i64 (m : Int) (m : Int) (by omega) (by omega) (by rw [hy2]; omega) (by omega)
    rw [hy1] at h
    have hm : madeCells (Value.slice none 0 0).cells (((m : Nat) : Int).toNat * 1) = (List.replicate m (Value.slice none 0 0)).toArray := by
      apply Array.ext'
      have := toList_madeCells_one (Value.slice none 0 0) m
      rw [show (Value.slice none 0 0).cells = #[Value.slice none 0 0] from rfl]
      simpa using this
    rw [hm] at h
    simpa using h
  obtain ⟨MB, hMB⟩ : ∃ MB, (List.replicate m (Value.int .i64 0)).toArray = MB := ⟨_, rfl⟩
  obtain ⟨MR, hMR⟩ : ∃ MR, (List.replicate m (Value.slice none 0 0)).toArray = MR := ⟨_, rfl⟩
  rw [hMB] at hmk
  rw [hMR] at hmk2
  have HMB := Lib.hid hMB
  have HMR := Lib.hid hMR
  have HM := Lib.hid hm
  rw [hm]
  clear hi0 hz0 hz1 hz2 hj0 hy0 hy1 hy2 hMB hMR hg hm
  go_enter Try.func25, Try.ntmps25
  go_upto_region 2 with (go_at_call 31; (with_reducible refine (HPL.out _ ((Below.refl _ _).alloc (Nat.le_refl _) _)).mono ?_); rintro e w1 ⟨hb1, q, rfl, hq, hbx⟩; have HB1 := Lib.hid hb1; have HBX := Lib.hid hbx; clear hb1 hbx HPL)
  go_cut [5] from 19 (fun v5 wx => ∃ eb fo lo, v5 = .pointer (some ⟨eb, 0, none⟩) ∧ Hid (BT w1 wx m eb fo lo))
  case first =>
    go_region
    all_goals (go_wp2_with fail; go_meet)
    all_goals refine ⟨_, _, _, rfl, bt_done HMR.out HMB.out (by first | exact (alloc3 _ _ _ _).1 | exact (alloc3 _ _ _ _).2.1 | exact (alloc3 _ _ _ _).2.2) (by first | exact (alloc3 _ _ _ _).1 | exact (alloc3 _ _ _ _).2.1 | exact (alloc3 _ _ _ _).2.2) (by first | exact (alloc3 _ _ _ _).1 | exact (alloc3 _ _ _ _).2.1 | exact (alloc3 _ _ _ _).2.2) (by omega) (by omega) (by repeat (first | exact Below.refl _ _ | refine Below.drew ?_ | refine below_alloc ?_ (Nat.le_refl _) _))⟩
  case rest =>
    obtain ⟨eb, fo, lo, rfl, HT⟩ := hcut
    have HBM0 := Lib.hid (HT.out.start (by omega))
    have HBI0 := Lib.hid (BI.zero g)
    have HBA : Hid (Below w.heap.size w w1) := ((Below.refl _ w).alloc (Nat.le_refl _) _).trans (HB1.out.mono (by simp))
    have HQB : Hid (q < w1.heap.size) := HBX.out.lt
    have HRC : Hid (Box w1 w.heap.size 42 [.slice none 0 0, .slice none 0 0]) := (Box.new w 42 [.slice none 0 0, .slice none 0 0]).below HB1.out
    obtain ⟨B, hB⟩ : ∃ B, w1.heap.size = B := ⟨_, rfl⟩
    obtain ⟨mb, hmb⟩ : ∃ mb, wc.heap.size = mb := ⟨_, rfl⟩
    obtain ⟨w2, hw2⟩ : ∃ w2, wc.alloc (.map #[] 0) = w2 := ⟨_, rfl⟩
    rw [hB, hmb, hw2] at HBM0
    rw [hB] at HQB
    have HBQ := Lib.hid hB
    have hwB : w.heap.size ≤ B := by rw [← hB]; exact HBA.out.size
    clear hmk hmk2 HT hq HB1 hB
    go_wp2_with fail
    clear hmb hw2 hmm
    go_loopw [27] (fun iv wr => ∃ (x : Nat) (P : PL) (vs : List Value), x ≤ n ∧ iv = .int .i64 (x : Int) ∧ Hid (BI g x 0 P) ∧ Hid (BM w1 wr B m eb fo lo mb P vs)) (fun iv _ => n - (intOf iv).toNat)
    case atStart => exact ⟨0, _, _, Nat.zero_le _, rfl, HBI0, HBM0⟩
    case round =>
      clear HBI0 HBM0
      obtain ⟨x, P, vs, hx, rfl, HBI, HBM⟩ := hrel
      by_cases hlt : x < n
      · have hbw : Below w.heap.size w wr := HBA.out.trans (HBM.out.bel.mono hwB)
        obtain ⟨rb, ro, ai, ci, hag, hrb, hcr, hrow⟩ := (HGI.out.below hbw hh).row hlt
        obtain ⟨LL, hLL⟩ : ∃ LL, (rowG g x).length = LL := ⟨_, rfl⟩
        have hLs : LL ≤ 1000000 := by rw [← hLL]; exact HGI.out.2.2.1 x
        have hcr0 : w.cell? ⟨rb, ro + x, none⟩ = some (.slice ai LL ci) := by rw [← hbw.cell (p := ⟨rb, ro + x, none⟩) (show rb < _ by omega), ← hLL]; exact hcr
        have HRW : Hid (Row 0 hi w ai LL (rowG g x)) := by
          obtain ⟨rb', ro', ai', ci', e1, _, e3, e4⟩ := HGI.out.row hlt
          rw [hag] at e1
          cases e1
          rw [e3] at hcr0
          cases hcr0
          rw [← hLL]; exact e4
        rw [hLL] at hcr
        subst hag
        have hrbw : rb < wr.heap.size := by have := hbw.size; omega
        have HLL := Lib.hid hLL
        clear hLL hrow hcr0 hbw
        have T2 : ∀ W, Sem.run Try.prog (Instr.indexAt 23 (.slice (some ⟨rb, ro, none⟩) n cg) (.int .i64 (x : Int))) W = .ok (.pointer (some ⟨rb, ro + x, none⟩)) W := fun W => by go_simp
        go_wp2_with fail
        clear hcr hrbw
        go_loopw [34] (fun jv wx => ∃ (j : Nat) (P : PL) (vs : List Value), j ≤ LL ∧ jv = .int .i64 (j : Int) ∧ Hid (BI g x j P) ∧ Hid (BM w1 wx B m eb fo lo mb P vs)) (fun jv _ => LL - (intOf jv).toNat)
        case atStart => exact ⟨0, P, vs, Nat.zero_le _, rfl, HBI, HBM⟩
        case round =>
          clear HBI HBM
          clear vs P
          obtain ⟨j, P, vs, hj, rfl, HBI, HBM⟩ := hrel
          rename World => wx
          by_cases hltj : j < LL
          · have hbw : Below w.heap.size w wx := HBA.out.trans (HBM.out.bel.mono hwB)
            obtain ⟨hrl, hrz⟩ := HRW.out
            obtain ⟨yb, yo, rfl, _, hyb, hyc⟩ := hrz.resolve_left (by omega)
            obtain ⟨Y, hY⟩ : ∃ Y, (rowG g x).getD j 0 = Y := ⟨_, rfl⟩
            have hcy := (hbw.cell (p := ⟨yb, yo + j, none⟩) (show yb < _ by omega)).trans (hyc j hltj)
            rw [hY] at hcy
            have hpY : (rowG g x)[j]? = some Y := by
              rw [List.getElem?_eq_getElem (by rw [hrl]; exact hltj)]
              rw [List.getD_eq_getElem?_getD, List.getElem?_eq_getElem (by rw [hrl]; exact hltj)] at hY
              simpa using hY
            have hyb1 : yb < wx.heap.size := by have := hbw.size; omega
            have T3 : ∀ W, Sem.run Try.prog (Instr.indexAt 26 (.slice (some ⟨yb, yo, none⟩) LL ci) (.int .i64 (j : Int))) W = .ok (.pointer (some ⟨yb, yo + j, none⟩)) W := fun W => by go_simp
            have HPY := Lib.hid hpY
            have hxg : x < g.length := by rw [HGL.out]; exact hlt
            have HSK : Hid ((∀ y : Nat, Y = (y : Int) → y < g.length → gof g x ≠ gof g y → (gof g x, gof g y) ∈ P) → BI g x (j + 1) P) := fun h => HBI.out.skip hxg HPY.out h
            have HBMd : Hid (∀ k, BM w1 (wx.drewN k) B m eb fo lo mb P vs) := fun k => HBM.out.below (below_drewN (Below.refl _ _) k)
            clear hY hpY hrl hrz hyc
            by_cases hY0 : Y < 0
            · have e1 : decide (Y < 0) = true := decide_eq_true hY0
              have HBI2 : Hid (BI g x (j + 1) P) := HSK.out fun y e _ _ => by omega
              clear hY0
              go_wp2_with fail
              go_quiet (fail)
              go_wp2_with fail
              go_roundw
              case rel => exact ⟨j + 1, P, vs, by omega, by go_num, HBI2, Lib.hid (HBMd.out _)⟩
              case measure => simp [intOf]; omega
            · have e1 : decide (Y < 0) = false := decide_eq_false hY0
              obtain ⟨y, rfl⟩ : ∃ y : Nat, Y = y := ⟨Y.toNat, by omega⟩
              by_cases hYn : n ≤ y
              · have e2 : decide ((n : Int) ≤ (y : Int)) = true := decide_eq_true (by omega)
                have e2' : decide (n ≤ y) = true := decide_eq_true hYn
                have HBI2 : Hid (BI g x (j + 1) P) := HSK.out fun y' e h1 _ => by have := HGL.out; omega
                clear hY0 hYn
                go_wp2_with fail
                go_quiet (fail)
                go_wp2_with fail
                go_roundw
                case rel => exact ⟨j + 1, P, vs, by omega, by go_num, HBI2, Lib.hid (HBMd.out _)⟩
                case measure => simp [intOf]; omega
              · have e2 : decide ((n : Int) ≤ (y : Int)) = false := decide_eq_false (by omega)
                have e2' : decide (n ≤ y) = false := decide_eq_false hYn
                have hyn : y < n := by omega
                have hyg : y < g.length := by rw [HGL.out]; exact hyn
                have hgx := HBX.out.below (show Below w1.heap.size w1 wx by rw [HBQ.out]; exact HBM.out.bel)
                have hq1 := hgx.lt
                have cx := box_el hgx (i := x) (by rw [gofL_len]; exact hxg)
                have cy := box_el hgx (i := y) (by rw [gofL_len]; exact hyg)
                rw [gofL_el hxg] at cx
                rw [gofL_el hyg] at cy
                have hsl : gof g x < m := by rw [← HM.out]; exact gof_lt hxg
                have htl : gof g y < m := by rw [← HM.out]; exact gof_lt hyg
                have HNEW : Hid (gof g x ≠ gof g y → (gof g x, gof g y) ∉ P → BI g x (j + 1) (P ++ [(gof g x, gof g y)])) := fun h1 h2 => HBI.out.new hxg HPY.out hyg h1 h2
                have HSK2 : Hid ((gof g x ≠ gof g y → (gof g x, gof g y) ∈ P) → BI g x (j + 1) P) := fun h => HSK.out fun y' e _ hn => by
                  have : y = y' := by omega
                  subst this; exact h hn
                obtain ⟨s, hs⟩ : ∃ s, gof g x = s := ⟨_, rfl⟩
                obtain ⟨t, ht⟩ : ∃ t, gof g y = t := ⟨_, rfl⟩
                rw [hs] at cx hsl HNEW HSK2
                rw [ht] at cy htl HNEW HSK2
                clear hs ht hgx hY0 hYn HSK HBX
                by_cases hst : s = t
                · subst hst
                  have HBI2 : Hid (BI g x (j + 1) P) := HSK2.out fun h => absurd rfl h
                  go_wp2_with fail
                  go_quiet (fail)
                  go_wp2_with fail
                  go_roundw
                  case rel => exact ⟨j + 1, P, vs, by omega, by go_num, HBI2, Lib.hid (HBMd.out _)⟩
                  case measure => simp [intOf]; omega
                · have e3 : ((s : Int) == (t : Int)) = false := by simp; omega
                  have e3' : (s == t) = false := by simp; omega
                  go_wp2_with fail
                  go_quiet (fail)
                  go_upto_region 11 with fail
                  generalize hw3 : World.drewN wx _ = w3
                  have HBM3 : Hid (BM w1 w3 B m eb fo lo mb P vs) := by show BM _ _ _ _ _ _ _ _ _ _; rw [← hw3]; exact HBMd.out _
                  have cx3 : w3.cell? ⟨q, x, none⟩ = some (.int .i64 (s : Int)) := by rw [← hw3]; exact cx
                  have cy3 : w3.cell? ⟨q, y, none⟩ = some (.int .i64 (t : Int)) := by rw [← hw3]; exact cy
                  have hq3 : q < w3.heap.size := by rw [← hw3]; exact hq1
                  clear hw3 cx cy hq1 HBMd HBM
                  go_region
                  have hb4 : Below w3.heap.size w3 (w3.alloc (.cells #[.int .i64 (s : Int), .int .i64 (t : Int)] 53)).drew := ((Below.refl _ _).alloc (Nat.le_refl _) _).drew
                  have hx4 : Box (w3.alloc (.cells #[.int .i64 (s : Int), .int .i64 (t : Int)] 53)).drew w3.heap.size 53 [.int .i64 (s : Int), .int .i64 (t : Int)] := (Box.new w3 _ [.int .i64 (s : Int), .int .i64 (t : Int)]).drew
                  have hs4 : (w3.alloc (.cells #[.int .i64 (s : Int), .int .i64 (t : Int)] 53)).drew.heap.size = w3.heap.size + 1 := by simp [World.drew]
                  obtain ⟨w4, hw4⟩ : ∃ w4, (w3.alloc (.cells #[.int .i64 (s : Int), .int .i64 (t : Int)] 53)).drew = w4 := ⟨_, rfl⟩
                  rw [hw4] at hb4 hx4 hs4 ⊢
                  obtain ⟨E, hE⟩ : ∃ E, w3.heap.size = E := ⟨_, rfl⟩
                  have HBM4 : Hid (BM w1 w4 B m eb fo lo mb P vs) := HBM3.out.below hb4
                  rw [hE] at hx4 hs4 ⊢
                  have hE4 : E < w4.heap.size := by omega
                  have HEMB : Hid (E ≠ mb) := by show E ≠ mb; have := HBM3.out.mp.lt; omega
                  obtain ⟨D, kl, hmp, hkey, hhas, hput⟩ := HBM4.out.mp.look (s := s) (t := t) (by omega) (by omega)
                  have HMP := Lib.hid hmp
                  have HPUT := Lib.hid hput
                  have HX4 := Lib.hid hx4
                  obtain ⟨x1, x2, x3, x4⟩ := hx4.two
                  clear hw4 hb4 hs4 hE hmp hput hx4
                  cases hin : decide ((s, t) ∈ P) with
                  | true =>
                    rw [hin] at hhas
                    have HH := Lib.hid hhas
                    have HBI2 : Hid (BI g x (j + 1) P) := HSK2.out fun _ => of_decide_eq_true hin
                    have HBM5 : Hid (BM w1 (w4.alloc (.cells #[] 57)) B m eb fo lo mb P vs) := HBM4.out.below ((Below.refl _ _).alloc (Nat.le_refl _) _)
                    clear hhas hin
                    go_wp2_with (at_lookup; refine wpList_lookup_val _ rfl _ _ 56 rfl 53 57 Try.pairKeyed Try.underlying56 (Try.zeroUnit _) mb P.length D rfl HMP.out _ _ rfl hkey _ HH.out ?_)
                    go_roundw
                    case rel => exact ⟨j + 1, P, vs, by omega, by go_num, HBI2, HBM5⟩
                    case measure => simp [intOf]; omega
                  | false =>
                    rw [hin] at hhas
                    have HH := Lib.hid hhas
                    have HNI : Hid ((s, t) ∉ P) := of_decide_eq_false hin
                    have HBI2 : Hid (BI g x (j + 1) (P ++ [(s, t)])) := HNEW.out hst HNI.out
                    have HBM5 : Hid (BM w1 (w4.alloc (.cells #[] 57)) B m eb fo lo mb P vs) := HBM4.out.below ((Below.refl _ _).alloc (Nat.le_refl _) _)
                    have HPL : P.length ≤ 100000000 := by
                      have h9 := HBI.out.len HM.out
                      have : m * m ≤ 10000 * 10000 := Nat.mul_le_mul hmn hmn
                      omega
                    clear hhas hin
                    go_upto_region 14 with (at_lookup; refine wpList_lookup_val _ rfl _ _ 56 rfl 53 57 Try.pairKeyed Try.underlying56 (Try.zeroUnit _) mb P.length D rfl HMP.out _ _ rfl hkey _ HH.out ?_)
                    have hm5 : (w4.alloc (.cells #[] 57)).ownsMap Try.prog 53 (unitElem (H := Unit)) mb P.length D := ownsMap_agree HMP.out (Below.heap_alloc _ _ _ HBM4.out.mp.lt)
                    have hx5 := HX4.out.alloc (.cells #[] 57)
                    have hs5 : E < (w4.alloc (.cells #[] 57)).heap.size := by simp; omega
                    obtain ⟨w5, hw5⟩ : ∃ w5, w4.alloc (.cells #[] 57) = w5 := ⟨_, rfl⟩
                    rw [hw5] at hm5 hx5 HBM5 hs5 ⊢
                    have HM5 := Lib.hid hm5
                    have HX5 := Lib.hid hx5
                    obtain ⟨y1, y2, y3, y4⟩ := hx5.two
                    obtain ⟨z1, z2, _, _⟩ := HBM5.out.box.two
                    have hebl := HBM5.out.box.lt
                    clear hm5 hx5 hw5 x1 x2 x3 x4
                    go_upto_region 15 with (at_mapUpdate; refine wpList_mapUpdate_own _ rfl _ _ _ 56 rfl 53 57 Try.pairKeyed Try.underlying56 (unitElem (H := Unit)) mb P.length _ rfl HM5.out (by unfold maxLen; omega) _ _ _ rfl rfl hkey _ [] unitElem_mk ?_; intro w6 hown6 hgrow6)
                    have hs6 := hgrow6.size
                    obtain ⟨hEB6, hbx6, hbl6⟩ := HBM5.out.grown hgrow6
                    have HEP6 := Lib.hid (HPUT.out _ hown6)
                    have hE6 : Box w6 E 53 [.int .i64 (s : Int), .int .i64 (t : Int)] := HX5.out.grown hgrow6 (fun e => HEMB.out (Option.some.inj e))
                    have HAD := Lib.hid (add_any B fo lo m [lo, eb, mb] vs P s t w6 hEB6 hmn hsl htl (Nat.le_trans (fromR_len HBI.out.nd (fun a b h => by have := (HBI.out.lt h).1; rw [HM.out] at this; exact this) t) hmn) (Nat.le_trans (leftN_len HBI.out.nd (fun a b h => by have := (HBI.out.lt h).2; rw [HM.out] at this; exact this) s) hmn))
                    obtain ⟨v1, v2, _, _⟩ := hE6.two
                    obtain ⟨z3, z4, _, _⟩ := hbx6.two
                    have hebl6 := hbx6.lt
                    have hEl6 := hE6.lt
                    have HBX6 := Lib.hid hbx6
                    have HBL6 := Lib.hid hbl6
                    clear hown6 hgrow6 hEB6 hbx6 hbl6 hE6 y1 y2 y3 y4 z1 z2
                    go_wp2_with (go_at_call 32; (with_reducible refine (HAD.out).mono ?_); rintro e w7 ⟨rfl, ⟨vs7, he7⟩, hb7, hk7⟩; have HBM7 : Hid (BM w1 w7 B m eb fo lo mb (P ++ [(s, t)]) vs7) := ⟨he7, (hk7 eb (by simp) HBM5.out.dis.1).trans HBX6.out, HEP6.out.agree (hk7 mb (by simp) HBM5.out.dis.2.1), HBL6.out.trans hb7, HBM5.out.dis, HBM5.out.mb_⟩; clear he7 hb7 hk7)
                    go_roundw
                    case rel => exact ⟨j + 1, _, _, by omega, by go_num, HBI2, HBM7⟩
                    case measure => simp [intOf]; omega
          · have hjl : j = LL := by omega
            have hge : ¬ ((j : Int) < (LL : Int)) := by omega
            have HBI2 : Hid (BI g (x + 1) 0 P) := by
              have := HBI.out
              rw [hjl, ← HLL.out] at this
              exact this.turn
            clear hjl
            go_wp2_with fail
            go_roundw
            case rel => exact ⟨x + 1, P, vs, by omega, by go_num, HBI2, HBM⟩
            case measure => simp [intOf]; omega
      · have hxn : x = n := by omega
        have hge : ¬ ((x : Int) < (n : Int)) := by omega
        have HBIn : Hid (BI g g.length 0 P) := by
          have := HBI.out
          rw [hxn, ← HGL.out] at this
          exact this
        obtain ⟨z1, z2, _, _⟩ := HBM.out.box.two
        have hebl := HBM.out.box.lt
        have hrx := HRC.out.below (show Below w1.heap.size w1 wr by rw [HBQ.out]; exact HBM.out.bel)
        obtain ⟨y1, y2, y3, y4⟩ := hrx.two
        have hrl := hrx.lt
        have hwB2 : w.heap.size < B := by have := HRC.out.lt; rw [HBQ.out] at this; exact this
        have HFIN : Hid (∀ u1 u2, EB ((wr.setCell ⟨w.heap.size, 0, none⟩ u1).setCell ⟨w.heap.size, 1, none⟩ u2) B fo lo m [lo, eb, mb] vs P ∧ Below w.heap.size w ((wr.setCell ⟨w.heap.size, 0, none⟩ u1).setCell ⟨w.heap.size, 1, none⟩ u2)) := fun u1 u2 => by
          refine ⟨HBM.out.eb_.agree (fun r hr hl => ?_) (by simp [World.setCell]), ((HBA.out.trans (HBM.out.bel.mono hwB)).setCell (p := ⟨w.heap.size, 0, none⟩) (Nat.le_refl _) _).setCell (p := ⟨w.heap.size, 1, none⟩) (Nat.le_refl _) _⟩
          rw [Below.heap_setCell _ _ _ _ (show r ≠ w.heap.size by omega), Below.heap_setCell _ _ _ _ (show r ≠ w.heap.size by omega)]
        clear hxn hrx
        go_wp2_with fail
        refine bodyPost_ret (v := .agg #[.slice (some ⟨fo, 0, none⟩) m m, .slice (some ⟨lo, 0, none⟩) m m]) (by simp only [results, Try.results25]; go_simp) rfl ?_
        first | exact ⟨(HFIN.out _ _).2, B, fo, lo, rfl, vs, P, ⟨_, (HFIN.out _ _).1⟩, hwB, HBIn.out⟩ | exact ⟨(HFIN.out _ _).2, B, fo, lo, rfl, vs, P, _, (HFIN.out _ _).1, hwB, HBIn.out⟩ | exact ⟨(HFIN.out _ _).2, B, fo, lo, rfl, ⟨vs, P, _, (HFIN.out _ _).1, hwB, HBIn.out⟩⟩ | (trace_state; sorry)

end Go.Proofs.Ytdbjmonboecfgaa
