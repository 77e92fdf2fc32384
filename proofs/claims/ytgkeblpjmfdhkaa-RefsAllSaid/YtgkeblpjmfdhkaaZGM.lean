/- Package parse's reader: con. Package parse's places: the first place of each variable. Package parse's reader: data. Package parse's reader: program. Package parse's reader: program, walked. Package parse's reader: program: the contract. -/
import Derived.Test.YtgkeblpjmfdhkaaZFM
import Derived.Test.YtgkeblpjmfdhkaaZCM
import Derived.Test.YtgkeblpjmfdhkaaZEM
import Derived.Deep.RegionLaw
import Derived.Deep.DeepCutAuto
import Derived.Deep.CutRange
namespace Go.Proofs.Ytgkeblpjmfdhkaa
open Go.RowKit Go.Maps
set_option linter.unusedVariables false
set_option linter.unusedSimpArgs false

end Go.Proofs.Ytgkeblpjmfdhkaa

namespace Go.Proofs.Ytgkeblpjmfdhkaa
open Go.RowKit Go.Maps
set_option linter.unusedVariables false
set_option linter.unusedSimpArgs false

end Go.Proofs.Ytgkeblpjmfdhkaa

namespace Go.Proofs.Ytgkeblpjmfdhkaa
open Go.RowKit Go.Maps
set_option linter.unusedVariables false
set_option linter.unusedSimpArgs false

end Go.Proofs.Ytgkeblpjmfdhkaa

namespace Go.Proofs.Ytgkeblpjmfdhkaa
open Go.RowKit Go.Maps
set_option linter.unusedVariables false
set_option linter.unusedSimpArgs false

theorem Try.zinfoD : (Try.prog.info? 56).map (fun i => (i.zero, i.size, i.bytes)) = some (some (.agg #[.string ⟨#[]⟩, .int .i64 0, .slice none 0 0, .slice none 0 0]), 4, 72) := by kernel_rfl
theorem Try.zinfoB : (Try.prog.info? 45).map (fun i => (i.zero, i.size, i.bytes)) = some (some (.agg #[.string ⟨#[]⟩, .int .i64 0, .int .i64 0, .int .i64 0, .string ⟨#[]⟩, .int .i64 0, .slice none 0 0, .slice none 0 0]), 8, 112) := by kernel_rfl
theorem step_plainz {P : Program} {ops : Array Oper} {o : Oper} {a : Act} {w : World} {K : Act → World → Prop} {Q : Exit → Act → World → Prop} {E : Prop} (hgd : o.guard = none) (h : Oper.wp P o a w K Q) : if Region.wanted o (yielded ops a.tmps) = true then Oper.wp P o a w K Q else E := by
  rw [if_pos (by simp [Region.wanted, hgd])]; exact h
/-- The program as it grows: its own variable, two rows, each apart from the other and from all trees. -/
structure PGW (W1 : World) (B3 : Nat) (w : World) (v1 v2 : Value) (p : Pg) (us1 us2 : List Value) : Prop where
  box : Box w B3 28 [v1, v2]
  r1 : w.ownsRow (B3 + 1) 56 4 v1 p.datas.length us1
  r2 : w.ownsRow (B3 + 1) 45 8 v2 p.binds.length us2
  i1 : InS (fun b => New W1 b ∧ b ≠ B3 ∧ v1.ownBlock ≠ some b ∧ v2.ownBlock ≠ some b) w (p.datas.flatMap dtC) us1
  i2 : InS (fun b => New W1 b ∧ b ≠ B3 ∧ v1.ownBlock ≠ some b ∧ v2.ownBlock ≠ some b) w (p.binds.flatMap bdC) us2
  ne : ∀ q, v1.ownBlock = some q → v2.ownBlock ≠ some q
theorem PGW.out {W1 w w' : World} {B3 R : Nat} {v1 v2 : Value} {p : Pg} {us1 us2 : List Value} (h : PGW W1 B3 w v1 v2 p us1 us2) (ho : Out (fun b => b = R) w w') (hR : R < W1.heap.size) (hB : W1.heap.size ≤ B3) : PGW W1 B3 w' v1 v2 p us1 us2 := by
  have key : ∀ b, b < w.heap.size → (New W1 b ∧ b ≠ B3 ∧ v1.ownBlock ≠ some b ∧ v2.ownBlock ≠ some b) → ¬ b = R := fun b _ hb e => by have := hb.1; unfold New at this; omega
  exact ⟨ho.box h.box (by show ¬ _; omega), own_out h.r1 ho (by omega), own_out h.r2 ho (by omega), h.i1.out ho key, h.i2.out ho key, h.ne⟩
theorem PGW.lt {W1 w : World} {B3 : Nat} {v1 v2 : Value} {p : Pg} {us1 us2 : List Value} (h : PGW W1 B3 w v1 v2 p us1 us2) : (∀ q, v1.ownBlock = some q → B3 + 1 ≤ q ∧ q < w.heap.size) ∧ ∀ q, v2.ownBlock = some q → B3 + 1 ≤ q ∧ q < w.heap.size := ⟨ownsRow_lo h.r1, ownsRow_lo h.r2⟩
/-- A declaration of data more: w4 the world behind the call, a block o for the literal, then append, then the store. -/
theorem PGW.data {W1 W2 w4 w9 : World} {B3 g cap : Nat} {v1 v2 : Value} {p : Pg} {us1 us2 vs : List Value} {d : Dt} {o : Obj} (h : PGW W1 B3 w4 v1 v2 p us1 us2) (hd : InS (New W2) w4 (dtC d) vs) (hW2 : W1.heap.size ≤ W2.heap.size) (hB3 : B3 < W2.heap.size) (h1 : ∀ q, v1.ownBlock = some q → q < W2.heap.size) (h2 : ∀ q, v2.ownBlock = some q → q < W2.heap.size)
    (hown : w9.ownsRow (B3 + 1) 56 4 (.slice (some ⟨g, 0, none⟩) (p.datas.length + 1) cap) (p.datas.length + 1) (us1 ++ vs)) (hg : (w4.alloc o).grownBy w9 v1.ownBlock) (hat : v1.ownBlock = some g ∨ g = w4.heap.size + 1) :
    PGW W1 B3 (w9.setCell ⟨B3, 0, none⟩ (.slice (some ⟨g, 0, none⟩) (p.datas.length + 1) cap)) (.slice (some ⟨g, 0, none⟩) (p.datas.length + 1) cap) v2 ⟨p.datas ++ [d], p.binds⟩ (us1 ++ vs) us2 := by
  have hsz : (w4.alloc o).heap.size = w4.heap.size + 1 := by simp
  have hlt := h.lt
  have hbl : B3 < w4.heap.size := h.box.lt
  have hs9 := hg.size
  have hgB : g ≠ B3 := by rcases hat with e | e
                          · have := (hlt.1 g e).1; omega
                          · omega
  have hg2 : v2.ownBlock ≠ some g := by rcases hat with e | e
                                        · exact h.ne g e
                                        · intro q; have := (hlt.2 g q).2; omega
  have blk : ∀ b, b < w4.heap.size → v1.ownBlock ≠ some b → w9.heap[b]? = w4.heap[b]? := fun b hb hn => (hg.block b (by omega) (fun q => hn q.symm)).trans (Below.heap_alloc w4 o b hb)
  have blk2 : ∀ b, b ≠ B3 → (w9.setCell ⟨B3, 0, none⟩ (.slice (some ⟨g, 0, none⟩) (p.datas.length + 1) cap)).heap[b]? = w9.heap[b]? := fun b hb => Below.heap_setCell w9 ⟨B3, 0, none⟩ _ b hb
  have hnB : v1.ownBlock ≠ some B3 := fun q => by have := (hlt.1 B3 q).1; omega
  have hnB2 : v2.ownBlock ≠ some B3 := fun q => by have := (hlt.2 B3 q).1; omega
  have key : ∀ b, b < w4.heap.size → (New W1 b ∧ b ≠ B3 ∧ v1.ownBlock ≠ some b ∧ v2.ownBlock ≠ some b) → (New W1 b ∧ b ≠ B3 ∧ (Value.slice (some ⟨g, 0, none⟩) (p.datas.length + 1) cap).ownBlock ≠ some b ∧ v2.ownBlock ≠ some b) ∧ (w9.setCell ⟨B3, 0, none⟩ (.slice (some ⟨g, 0, none⟩) (p.datas.length + 1) cap)).heap[b]? = w4.heap[b]? := by
    rintro b hb ⟨q1, q2, q3, q4⟩
    refine ⟨⟨q1, q2, fun q => ?_, q4⟩, (blk2 b q2).trans (blk b hb q3)⟩
    have e1 : g = b := Option.some.inj q
    rcases hat with e | e
    · rw [e1] at e; exact q3 e
    · omega
  have hss : w4.heap.size ≤ (w9.setCell ⟨B3, 0, none⟩ (.slice (some ⟨g, 0, none⟩) (p.datas.length + 1) cap)).heap.size := by simp; omega
  refine ⟨?_, ?_, ?_, ?_, ?_, ?_⟩
  · have hb9 : Box w9 B3 28 [v1, v2] := (blk B3 hbl hnB).trans h.box
    exact hb9.set 0 _
  · have := own_agree hown (w' := w9.setCell ⟨B3, 0, none⟩ (.slice (some ⟨g, 0, none⟩) (p.datas.length + 1) cap)) fun q hq => blk2 q (by have e1 : g = q := Option.some.inj hq; omega)
    simpa using this
  · exact own_agree h.r2 fun q hq => by
      have := hlt.2 q hq
      exact (blk2 q (by omega)).trans (blk q this.2 (fun e => h.ne q e hq))
  · have e : (p.datas ++ [d]).flatMap dtC = p.datas.flatMap dtC ++ dtC d := by simp
    show InS _ _ ((p.datas ++ [d]).flatMap dtC) _
    rw [e]
    exact InS.app (h.i1.agree (fun b q1 q2 => key b q2 q1) hss) (hd.agree (fun b q1 q2 => key b q2 (by
      unfold New at q1 ⊢
      refine ⟨by omega, by omega, fun q => ?_, fun q => ?_⟩
      · have := h1 b q; omega
      · have := h2 b q; omega)) hss)
  · exact h.i2.agree (fun b q1 q2 => key b q2 q1) hss
  · intro q hq e
    have e1 : g = q := Option.some.inj hq
    exact hg2 (e1 ▸ e)
/-- A Bind more. -/
theorem PGW.bind {W1 W2 w4 w9 : World} {B3 g cap : Nat} {v1 v2 : Value} {p : Pg} {us1 us2 vs : List Value} {d : Bd} {o : Obj} (h : PGW W1 B3 w4 v1 v2 p us1 us2) (hd : InS (New W2) w4 (bdC d) vs) (hW2 : W1.heap.size ≤ W2.heap.size) (hB3 : B3 < W2.heap.size) (h1 : ∀ q, v1.ownBlock = some q → q < W2.heap.size) (h2 : ∀ q, v2.ownBlock = some q → q < W2.heap.size)
    (hown : w9.ownsRow (B3 + 1) 45 8 (.slice (some ⟨g, 0, none⟩) (p.binds.length + 1) cap) (p.binds.length + 1) (us2 ++ vs)) (hg : (w4.alloc o).grownBy w9 v2.ownBlock) (hat : v2.ownBlock = some g ∨ g = w4.heap.size + 1) :
    PGW W1 B3 (w9.setCell ⟨B3, 1, none⟩ (.slice (some ⟨g, 0, none⟩) (p.binds.length + 1) cap)) v1 (.slice (some ⟨g, 0, none⟩) (p.binds.length + 1) cap) ⟨p.datas, p.binds ++ [d]⟩ us1 (us2 ++ vs) := by
  have hsz : (w4.alloc o).heap.size = w4.heap.size + 1 := by simp
  have hlt := h.lt
  have hbl : B3 < w4.heap.size := h.box.lt
  have hs9 := hg.size
  have hgB : g ≠ B3 := by rcases hat with e | e
                          · have := (hlt.2 g e).1; omega
                          · omega
  have hg2 : v1.ownBlock ≠ some g := by rcases hat with e | e
                                        · exact fun q => h.ne g q e
                                        · intro q; have := (hlt.1 g q).2; omega
  have blk : ∀ b, b < w4.heap.size → v2.ownBlock ≠ some b → w9.heap[b]? = w4.heap[b]? := fun b hb hn => (hg.block b (by omega) (fun q => hn q.symm)).trans (Below.heap_alloc w4 o b hb)
  have blk2 : ∀ b, b ≠ B3 → (w9.setCell ⟨B3, 1, none⟩ (.slice (some ⟨g, 0, none⟩) (p.binds.length + 1) cap)).heap[b]? = w9.heap[b]? := fun b hb => Below.heap_setCell w9 ⟨B3, 1, none⟩ _ b hb
  have hnB : v2.ownBlock ≠ some B3 := fun q => by have := (hlt.2 B3 q).1; omega
  have key : ∀ b, b < w4.heap.size → (New W1 b ∧ b ≠ B3 ∧ v1.ownBlock ≠ some b ∧ v2.ownBlock ≠ some b) → (New W1 b ∧ b ≠ B3 ∧ v1.ownBlock ≠ some b ∧ (Value.slice (some ⟨g, 0, none⟩) (p.binds.length + 1) cap).ownBlock ≠ some b) ∧ (w9.setCell ⟨B3, 1, none⟩ (.slice (some ⟨g, 0, none⟩) (p.binds.length + 1) cap)).heap[b]? = w4.heap[b]? := by
    rintro b hb ⟨q1, q2, q3, q4⟩
    refine ⟨⟨q1, q2, q3, fun q => ?_⟩, (blk2 b q2).trans (blk b hb q4)⟩
    have e1 : g = b := Option.some.inj q
    rcases hat with e | e
    · rw [e1] at e; exact q4 e
    · omega
  have hss : w4.heap.size ≤ (w9.setCell ⟨B3, 1, none⟩ (.slice (some ⟨g, 0, none⟩) (p.binds.length + 1) cap)).heap.size := by simp; omega
  refine ⟨?_, ?_, ?_, ?_, ?_, ?_⟩
  · have hb9 : Box w9 B3 28 [v1, v2] := (blk B3 hbl hnB).trans h.box
    exact hb9.set 1 _
  · exact own_agree h.r1 fun q hq => by
      have := hlt.1 q hq
      exact (blk2 q (by omega)).trans (blk q this.2 (fun e => h.ne q hq e))
  · have := own_agree hown (w' := w9.setCell ⟨B3, 1, none⟩ (.slice (some ⟨g, 0, none⟩) (p.binds.length + 1) cap)) fun q hq => blk2 q (by have e1 : g = q := Option.some.inj hq; omega)
    simpa using this
  · exact h.i1.agree (fun b q1 q2 => key b q2 q1) hss
  · have e : (p.binds ++ [d]).flatMap bdC = p.binds.flatMap bdC ++ bdC d := by simp
    show InS _ _ ((p.binds ++ [d]).flatMap bdC) _
    rw [e]
    exact InS.app (h.i2.agree (fun b q1 q2 => key b q2 q1) hss) (hd.agree (fun b q1 q2 => key b q2 (by
      unfold New at q1 ⊢
      refine ⟨by omega, by omega, fun q => ?_, fun q => ?_⟩
      · have := h1 b q; omega
      · have := h2 b q; omega)) hss)
  · intro q hq e
    have e1 : g = q := Option.some.inj e
    exact hg2 (e1 ▸ hq)

end Go.Proofs.Ytgkeblpjmfdhkaa

namespace Go.Proofs.Ytgkeblpjmfdhkaa
open Go.RowKit Go.Maps
set_option linter.unusedVariables false
set_option linter.unusedSimpArgs false

theorem IsV.of_pg {S : Nat → Prop} {w : World} {p : Pg} {a b : Value} (h : InC S w (.s p.datas.length 4 (p.datas.flatMap dtC)) a) (h' : InC S w (.s p.binds.length 8 (p.binds.flatMap bdC)) b) : IsV S w (pgC p) (.agg #[a, b]) :=
  ⟨[_, _], rfl, InS.cons h (InS.cons h' InS.nil)⟩
theorem dataF_lt {En n : Nat} {σ : PS} (h : σ.sees (sW tData) = true) : (dataF En n σ).2.ts.length < σ.ts.length := by
  have e1 := take_lt (En := En) h (show (sW tData).k ≠ 0 by decide)
  obtain ⟨a, ha⟩ : ∃ a, σ.take En (sW tData) = a := ⟨_, rfl⟩
  rw [ha] at e1
  have e2 := take_len En a.2 sCon
  obtain ⟨b, hb⟩ : ∃ b, a.2.take En sCon = b := ⟨_, rfl⟩
  rw [hb] at e2
  have e3 := names_len b.2
  obtain ⟨m, hm⟩ : ∃ m, b.2.names = m := ⟨_, rfl⟩
  rw [hm] at e3
  have e4 := take_len En m.2 (sS tEq)
  obtain ⟨c, hc⟩ : ∃ c, m.2.take En (sS tEq) = c := ⟨_, rfl⟩
  rw [hc] at e4
  have e5 := rowsF_len (sep := sS tBar) (most := many) (conF_len En m.1 n) c.2
  obtain ⟨r, hr⟩ : ∃ r, rowsF (sS tBar) many (conF En m.1 n) c.2 = r := ⟨_, rfl⟩
  rw [hr] at e5
  have e6 := take_len En r.2 (sS tSemi)
  have e : dataF En n σ = (⟨b.1.s, b.1.p, m.1, r.1⟩, (r.2.take En (sS tSemi)).2) := by
    unfold dataF
    simp only [ha, hb, hm, hc, hr]
  rw [e]
  show (r.2.take En (sS tSemi)).2.ts.length < _
  omega
theorem topF_lt {En n : Nat} {σ : PS} (h : σ.ts ≠ []) (hk : σ.st = true → σ.ts = []) : (topF En n σ).2.ts.length < σ.ts.length := by
  have h1 : (σ.take En (sW tLet)).2.ts.length < σ.ts.length := by
    by_cases hs : σ.sees (sW tLet) = true
    · exact take_lt hs (by decide)
    · unfold PS.take; rw [if_neg hs]
      show (σ.stop En).ts.length < _
      rw [stop_lt hk]
      exact List.length_pos_iff.2 h
  exact Nat.lt_of_le_of_lt (Nat.le_trans (take_len _ _ _) (bindF_len (exprF_len En n) _)) h1
theorem programL_data {En n f : Nat} {p : Pg} {τ : PS} (hf : τ.ts.length ≤ f) (h0 : τ.ts ≠ []) (h1 : τ.sees (sW tData) = true) :
    ∃ f', programL En n f p τ = programL En n f' ⟨p.datas ++ [(dataF En n τ).1], p.binds⟩ (dataF En n τ).2 ∧ (dataF En n τ).2.ts.length ≤ f' ∧ (dataF En n τ).2.ts.length < τ.ts.length := by
  have h3 := dataF_lt (En := En) (n := n) h1
  obtain ⟨f', rfl⟩ : ∃ f', f = f' + 1 := ⟨f - 1, by omega⟩
  exact ⟨f', by rw [programL, if_neg h0, if_pos h1], by omega, h3⟩
theorem programL_top {En n f : Nat} {p : Pg} {τ : PS} (hf : τ.ts.length ≤ f) (h0 : τ.ts ≠ []) (hk : τ.st = true → τ.ts = []) (h1 : τ.sees (sW tData) = false) :
    ∃ f', programL En n f p τ = programL En n f' ⟨p.datas, p.binds ++ [(topF En n τ).1]⟩ (topF En n τ).2 ∧ (topF En n τ).2.ts.length ≤ f' ∧ (topF En n τ).2.ts.length < τ.ts.length := by
  have h3 := topF_lt (En := En) (n := n) h0 hk
  obtain ⟨f', rfl⟩ : ∃ f', f = f' + 1 := ⟨f - 1, by omega⟩
  exact ⟨f', by rw [programL, if_neg h0, if_neg (by rw [h1]; decide)], by omega, h3⟩
theorem programL_end {En n f : Nat} {p : Pg} {τ : PS} (h : τ.ts = []) : programL En n f p τ = (p, τ) := by
  cases f with
  | zero => rfl
  | succ f => rw [programL, if_pos h]
theorem two_cells {w : World} {b : Nat} {t : TypeId} {c0 c1 : Value} (h : Box w b t [c0, c1]) : w.cell? ⟨b, 0, none⟩ = some c0 ∧ w.cell? ⟨b, 1, none⟩ = some c1 ∧ w.frozen? ⟨b, 0, none⟩ = false ∧ w.frozen? ⟨b, 1, none⟩ = false := ⟨h.cell 0, h.cell 1, h.frozen 0, h.frozen 1⟩
end Go.Proofs.Ytgkeblpjmfdhkaa

namespace Go.Proofs.Ytgkeblpjmfdhkaa
open Go.RowKit Go.Maps
set_option linter.unusedVariables false
set_option linter.unusedSimpArgs false

end Go.Proofs.Ytgkeblpjmfdhkaa
