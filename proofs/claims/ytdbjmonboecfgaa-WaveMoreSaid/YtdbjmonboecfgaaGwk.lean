/- Memory of package scc: the walk; a graph that was handed in. -/
import Derived.Test.YtdbjmonboecfgaaGint
namespace Go.Proofs.Ytdbjmonboecfgaa
open Go.RowKit Go.Maps
open Go.WideMaps (ArrKey keyOf_pair)
set_option linter.unusedVariables false
set_option linter.unusedSimpArgs false

/-! ### a map of edges -/
theorem Try.zzeroInt (w : World) : (zeroValue 3).run Try.prog w = .ok (.int .i64 0) w := by kernel_rfl
def EInv (G : Nat → Nat → Nat) (D : DataW Unit) : Prop := IsMap D ∧ ∀ (x y : Nat) (kl : Lit), x ≤ 1000000 → y ≤ 1000000 → keyOf Try.prog 53 (.agg #[.int .i64 (x : Int), .int .i64 (y : Int)]) = some kl → D.atKey kl (.lit (.int .i64 0)) = .lit (.int .i64 (G x y : Int))
/-- Block b is a map that tells of edges where a row goes on. -/
def EM (w : World) (b n : Nat) (G : Nat → Nat → Nat) : Prop := ∃ D, w.ownsMap Try.prog 53 (plainElem Try.prog 3) b n D ∧ EInv G D
theorem fits_nat {x : Nat} (h : x ≤ 1000000) : fits (x : Int) := by unfold fits; omega
theorem ownsMap_agree {w w' : World} {P : Program} {k : TypeId} {R : Value → Option (DataW Unit × List MemPlace)} {b n : Nat} {D : DataW Unit} (h : w.ownsMap P k R b n D) (hb : w'.heap[b]? = w.heap[b]?) : w'.ownsMap P k R b n D := by
  obtain ⟨es, clock, h1, h2⟩ := h
  exact ⟨es, clock, hb.trans h1, h2⟩
theorem EM.agree {w w' : World} {b n : Nat} {G : Nat → Nat → Nat} (h : EM w b n G) (hb : w'.heap[b]? = w.heap[b]?) : EM w' b n G := by
  obtain ⟨D, h1, h2⟩ := h; exact ⟨D, ownsMap_agree h1 hb, h2⟩
theorem EM.lt {w : World} {b n : Nat} {G : Nat → Nat → Nat} (h : EM w b n G) : b < w.heap.size := by
  obtain ⟨D, h1, h2⟩ := h; exact h1.lt
theorem EM.made (w : World) : EM (w.alloc (.map #[] 0)) w.heap.size 0 (fun _ _ => 0) := ⟨_, World.ownsMap_made _ _ _ _, isMap_empty, fun x y kl _ _ _ => rfl⟩
theorem EM.look {w : World} {b n : Nat} {G : Nat → Nat → Nat} (h : EM w b n G) {x y : Nat} (hx : x ≤ 1000000) (hy : y ≤ 1000000) :
    Sem.run Try.prog (Instr.lookup 48 (.map (some b)) (.agg #[.int .i64 (x : Int), .int .i64 (y : Int)]) false) w = .ok (.int .i64 (G x y : Int)) w := by
  obtain ⟨D, hm, hi⟩ := h
  obtain ⟨kl, hkl, _⟩ := pair_key (fits_nat hx) (fits_nat hy)
  obtain ⟨c, hrun, hc, _⟩ := hm.lookup_int Try.pairKeyed Try.underlying48 Try.underlying3 (Try.zzeroInt _) hkl
  rw [hi.2 x y kl hx hy hkl] at hc
  cases hc
  exact hrun
theorem pairKl_ne {x y x' y' : Nat} {kl kl' : Lit} (h : keyOf Try.prog 53 (.agg #[.int .i64 (x : Int), .int .i64 (y : Int)]) = some kl) (h' : keyOf Try.prog 53 (.agg #[.int .i64 (x' : Int), .int .i64 (y' : Int)]) = some kl') (hne : ¬ (x' = x ∧ y' = y)) : kl' ≠ kl := by
  rintro rfl
  have := Try.pairLaw.inj h' h
  simp at this
  exact hne (by omega)
theorem EM.store {w : World} {b n : Nat} {G : Nat → Nat → Nat} (h : EM w b n G) (hn : n ≤ 10000000) {x y v : Nat} (hx : x ≤ 1000000) (hy : y ≤ 1000000) (hv : v ≤ 1000000000) :
    ∃ w', Sem.run Try.prog (Instr.mapUpdate 48 (.map (some b)) (.agg #[.int .i64 (x : Int), .int .i64 (y : Int)]) (.int .i64 (v : Int))) w = .ok () w' ∧ EM w' b (n + 1) (fun a c => if a = x ∧ c = y then v else G a c) ∧ w.grownBy w' (some b) ∧ w'.heap.size = w.heap.size := by
  obtain ⟨D, hm, hi⟩ := h
  obtain ⟨kl, hkl, hkk⟩ := pair_key (fits_nat hx) (fits_nat hy)
  have hkw : (Lit.int .i64 (v : Int)).wf = true := WalkArith.wf_i64 (by omega)
  obtain ⟨w9, hrun9, hown9, hturn9⟩ := World.ownsMap.store hm Try.pairKeyed Try.underlying48 (show n < maxLen by unfold maxLen; omega) hkl (plainElem_int Try.underlying3 hkw)
  refine ⟨w9, hrun9, ⟨_, hown9, hi.1.put _ _, fun a c kl' ha hc hk' => ?_⟩, hturn9.grown, ?_⟩
  · have hl := Try.pairKeyed.key hkl
    by_cases e : a = x ∧ c = y
    · obtain ⟨rfl, rfl⟩ := e
      rw [hkl] at hk'
      obtain rfl := Option.some.inj hk'
      dsimp only
      rw [if_pos ⟨rfl, rfl⟩, atKey_put_same hi.1 hl]
    · dsimp only
      rw [if_neg e, atKey_put_other (pairKl_ne hkl hk' e)]
      exact hi.2 a c kl' ha hc hk'
  · obtain ⟨_, _, _, _, _, rfl⟩ := hturn9
    simp [ChangeMaps.setBlock]
theorem EM.drop {w : World} {b n : Nat} {G : Nat → Nat → Nat} (h : EM w b n G) {x y : Nat} (hx : x ≤ 1000000) (hy : y ≤ 1000000) :
    ∃ w', (∀ ty, Sem.run Try.prog (Builtin.delete_ #[48, 53] ty #[.map (some b), .agg #[.int .i64 (x : Int), .int .i64 (y : Int)]]) w = .ok (.tuple #[]) w') ∧ EM w' b n (fun a c => if a = x ∧ c = y then 0 else G a c) ∧ w.grownBy w' (some b) ∧ w'.heap.size = w.heap.size := by
  obtain ⟨D, hm, hi⟩ := h
  obtain ⟨kl, hkl, hkk⟩ := pair_key (fits_nat hx) (fits_nat hy)
  obtain ⟨w9, hrun9, hown9, hturn9⟩ := World.ownsMap.drop hm Try.pairKeyed Try.underlying48 hkl 0
  refine ⟨w9, fun ty => ?_, ⟨_, hown9, ?_, fun a c kl' ha hc hk' => ?_⟩, hturn9.grown, ?_⟩
  · obtain ⟨w8, hrun8, _, _⟩ := World.ownsMap.drop hm Try.pairKeyed Try.underlying48 hkl ty
    exact hrun9
  · exact hi.1.del _
  · by_cases e : a = x ∧ c = y
    · obtain ⟨rfl, rfl⟩ := e
      rw [hkl] at hk'
      obtain rfl := Option.some.inj hk'
      dsimp only
      rw [if_pos ⟨rfl, rfl⟩, atKey_del_same]; rfl
    · dsimp only
      rw [if_neg e, atKey_del_other (pairKl_ne hkl hk' e)]
      exact hi.2 a c kl' ha hc hk'
  · obtain ⟨_, _, _, _, _, rfl⟩ := hturn9
    simp [ChangeMaps.setBlock]

/-! ### a graph that was handed in, or made -/
def GI (hi : Nat) (w : World) (a : Option Addr) (n : Nat) (g : Gr) : Prop :=
  g.length = n ∧ n ≤ 1000000 ∧ (∀ i, (rowG g i).length ≤ 1000000) ∧ (n = 0 ∨ ∃ b off, a = some ⟨b, off, none⟩ ∧ b < hi ∧ ∀ i, i < n → ∃ ai ci, w.cell? ⟨b, off + i, none⟩ = some (.slice ai (rowG g i).length ci) ∧ Row 0 hi w ai (rowG g i).length (rowG g i))
theorem GI.below {hi B : Nat} {w w' : World} {a : Option Addr} {n : Nat} {g : Gr} (h : GI hi w a n g) (hb : Below B w w') (hh : hi ≤ B) : GI hi w' a n g := by
  obtain ⟨h1, h2, h3, h4⟩ := h
  refine ⟨h1, h2, h3, h4.imp id fun ⟨b, off, e, hb', hc⟩ => ⟨b, off, e, hb', fun i hi' => ?_⟩⟩
  obtain ⟨ai, ci, q1, q2⟩ := hc i hi'
  exact ⟨ai, ci, (hb.cell (p := ⟨b, off + i, none⟩) (by show b < B; omega)).trans q1, q2.below hb hh⟩
theorem GI.mono {hi hi' : Nat} {w : World} {a : Option Addr} {n : Nat} {g : Gr} (h : GI hi w a n g) (hh : hi ≤ hi') : GI hi' w a n g := by
  obtain ⟨h1, h2, h3, h4⟩ := h
  refine ⟨h1, h2, h3, h4.imp id fun ⟨b, off, e, hb', hc⟩ => ⟨b, off, e, by omega, fun i hi' => ?_⟩⟩
  obtain ⟨ai, ci, q1, q2⟩ := hc i hi'
  exact ⟨ai, ci, q1, q2.mono (Nat.le_refl _) hh⟩
/-- A row. -/
theorem GI.row {hi : Nat} {w : World} {a : Option Addr} {n : Nat} {g : Gr} (h : GI hi w a n g) {x : Nat} (hx : x < n) : ∃ b off ai ci, a = some ⟨b, off, none⟩ ∧ b < hi ∧ w.cell? ⟨b, off + x, none⟩ = some (.slice ai (rowG g x).length ci) ∧ Row 0 hi w ai (rowG g x).length (rowG g x) := by
  obtain ⟨_, _, _, h4 | ⟨b, off, e, hb, hc⟩⟩ := h
  · omega
  · obtain ⟨ai, ci, q⟩ := hc x hx
    exact ⟨b, off, ai, ci, e, hb, q⟩

/-! ### the walk -/
structure Apart (base : Nat) (l : List Nat) (wv ov : Value) : Prop where
  nd : l.Nodup
  lo : ∀ q ∈ l, base ≤ q
  aw : ∀ q, wv.ownBlock = some q → q ∉ l
  ao : ∀ q, ov.ownBlock = some q → q ∉ l
  wo : ∀ q, wv.ownBlock = some q → ov.ownBlock ≠ some q
structure WB where
  base : Nat
  b : Nat
  mb : Nat
  cb : Nat
  eb : Nat
  fb : Nat
  n : Nat
  gv : Value
abbrev WB.l (c : WB) : List Nat := [c.b, c.mb, c.cb, c.eb, c.fb]
structure WK (c : WB) (w : World) (wv ov : Value) (k : Nat) (G : Nat → Nat → Nat) (s : St) : Prop where
  box : Box w c.b 50 [c.gv, wv, .map (some c.mb), ov, .int .i64 (s.cnt : Int), .slice (some ⟨c.cb, 0, none⟩) c.n c.n, .slice (some ⟨c.eb, 0, none⟩) c.n c.n, .slice (some ⟨c.fb, 0, none⟩) c.n c.n]
  way : w.ownsRow c.base 3 1 wv s.way.length (intsOf s.W.reverse)
  op : w.ownsRow c.base 3 1 ov s.op.length (intsOf s.op.reverse)
  cm : Box w c.cb 3 (intsOf s.cm)
  er : Box w c.eb 3 (intsOf s.er)
  fs : Box w c.fb 3 (intsOf s.fs)
  mp : EM w c.mb k G
  ap : Apart c.base c.l wv ov
section
variable {c : WB} {w w' : World} {wv ov : Value} {k : Nat} {G : Nat → Nat → Nat} {s : St}
theorem WK.below (h : WK c w wv ov k G s) (hb : Below w.heap.size w w') : WK c w' wv ov k G s :=
  ⟨h.box.below hb, ownsRow_below h.way hb, ownsRow_below h.op hb, h.cm.below hb, h.er.below hb, h.fs.below hb, h.mp.agree (hb.block _ h.mp.lt), h.ap⟩
theorem WK.drew (h : WK c w wv ov k G s) : WK c w.drew wv ov k G s := h.below (Below.refl _ w).drew
end
theorem box8 {w : World} {b : Nat} {t : TypeId} {c0 c1 c2 c3 c4 c5 c6 c7 : Value} (h : Box w b t [c0, c1, c2, c3, c4, c5, c6, c7]) : w.cell? ⟨b, 0, none⟩ = some c0 ∧ w.cell? ⟨b, 1, none⟩ = some c1 ∧ w.cell? ⟨b, 2, none⟩ = some c2 ∧ w.cell? ⟨b, 3, none⟩ = some c3 ∧ w.cell? ⟨b, 4, none⟩ = some c4 ∧ w.cell? ⟨b, 5, none⟩ = some c5 ∧ w.cell? ⟨b, 6, none⟩ = some c6 ∧ w.cell? ⟨b, 7, none⟩ = some c7 :=
  ⟨h.cell 0, h.cell 1, h.cell 2, h.cell 3, h.cell 4, h.cell 5, h.cell 6, h.cell 7⟩
theorem box_el {w : World} {b : Nat} {t : TypeId} {p : List Nat} (h : Box w b t (intsOf p)) {i : Nat} (hi : i < p.length) : w.cell? ⟨b, i, none⟩ = some (.int .i64 (el p i : Int)) := by
  rw [h.cell, intsOf_get hi]
theorem Apart.ne {base : Nat} {c : WB} {wv ov : Value} (h : Apart base c.l wv ov) : c.b ≠ c.mb ∧ c.b ≠ c.cb ∧ c.b ≠ c.eb ∧ c.b ≠ c.fb ∧ c.mb ≠ c.cb ∧ c.mb ≠ c.eb ∧ c.mb ≠ c.fb ∧ c.cb ≠ c.eb ∧ c.cb ≠ c.fb ∧ c.eb ≠ c.fb := by
  have := h.nd
  simp only [WB.l, List.nodup_cons, List.mem_cons, List.not_mem_nil, or_false, not_or, not_false_eq_true, List.nodup_nil, and_true] at this
  obtain ⟨⟨a1, a2, a3, a4⟩, ⟨b1, b2, b3⟩, ⟨c1, c2⟩, d1⟩ := this
  exact ⟨a1, a2, a3, a4, b1, b2, b3, c1, c2, d1⟩

end Go.Proofs.Ytdbjmonboecfgaa
