/- Package parse's reader: names. Rows of things that grow by append: each thing's own memory stays. What a call of the reader's tells. Package parse's row at api.Type. Package parse's row at api.Expr. Package parse's row at api.Con. Package parse's row at api.Alt. The end of a call of the reader's: its result lies in a block of its own (Nb). Package parse's bracket at api.Type. Package parse's bracket at api.Expr. Package parse's reader: variable, tupleType. -/
import Derived.Test.YtgkeblpjmfdhkaaZBM
import Derived.Laws.OwnMore
namespace Go.Proofs.Ytgkeblpjmfdhkaa
open Go.RowKit Go.Maps
set_option linter.unusedVariables false
set_option linter.unusedSimpArgs false

theorem Try.zstrInfo : (Try.prog.info? 9).map (fun i => (i.zero, i.size, i.bytes)) = some (some (.string ⟨#[]⟩), 1, 16) := by kernel_rfl
theorem own_out {R : Nat} {w w' : World} {base n size : Nat} {e : TypeId} {v : Value} {xs : List Value} (h : w.ownsRow base e size v n xs) (ho : Out (fun b => b = R) w w') (hR : R < base) : w'.ownsRow base e size v n xs :=
  own_agree h fun q hq => by have := ownsRow_lo h q hq; exact ho.block q this.2 (by omega)
theorem own_shape {w : World} {base n size : Nat} {e : TypeId} {v : Value} {xs : List Value} (h : w.ownsRow base e size v n xs) : ∃ a c, v = .slice a n c := by
  obtain ⟨_, ⟨rfl, h0⟩ | ⟨g, cap, cur, rfl, _⟩⟩ := h
  · exact ⟨none, 0, by rw [h0]⟩
  · exact ⟨_, _, rfl⟩
theorem own_nil {w : World} {base n size m c : Nat} {e : TypeId} {a : Option Addr} {xs : List Value} (h : w.ownsRow base e size (.slice a m c) n xs) : a = none → m = 0 ∧ c = 0 := by
  intro ha
  subst ha
  obtain ⟨_, ⟨h1, h0⟩ | ⟨g, cap, cur, h1, _⟩⟩ := h
  · cases h1; exact ⟨rfl, rfl⟩
  · cases h1
theorem strsC_ins (S : Nat → Prop) (w : World) : ∀ l : List By, InS S w (strsC l) (l.map fun s => Value.string (strB s))
  | [] => InS.nil
  | s :: r => InS.cons (.v _) (strsC_ins S w r)
theorem news_at {w : World} {t : TypeId} {cs : List Value} {H : Nat} (hH : w.heap.size = H) : ∀ j u, cs[j]? = some u → (w.alloc (.cells cs.toArray t)).cell? ((⟨H, 0, none⟩ : Addr).add j) = some u := news_of hH

end Go.Proofs.Ytgkeblpjmfdhkaa

namespace Go.Proofs.Ytgkeblpjmfdhkaa
open Go.RowKit Go.Maps
set_option linter.unusedVariables false
set_option linter.unusedSimpArgs false

theorem sS_ne (t : By) : (sS t).k ≠ 0 := Nat.succ_ne_zero 4
/-- A row of a call's own, of things whose memory is not the row's. -/
def GR (W0 : World) (base : Nat) (e : TypeId) (k : Nat) (w : World) (v : Value) (n : Nat) (cs : List Cl) (us : List Value) : Prop :=
  w.ownsRow base e k v n us ∧ InS (fun b => New W0 b ∧ v.ownBlock ≠ some b) w cs us
theorem GR.out {W0 : World} {base : Nat} {e : TypeId} {k n R : Nat} {w w' : World} {v : Value} {cs : List Cl} {us : List Value} (h : GR W0 base e k w v n cs us) (ho : Out (fun b => b = R) w w') (hR : R < base) (hR0 : R < W0.heap.size) : GR W0 base e k w' v n cs us :=
  ⟨own_out h.1 ho hR, h.2.out ho fun b _ hb he => by have := hb.1; unfold New at this; subst he; omega⟩
theorem GR.one {W0 w : World} {base k : Nat} {e : TypeId} {cs : List Cl} {us : List Value} (hb : base ≤ w.heap.size) (h : InS (New W0) w cs us) (hk : us.length = k) : GR W0 base e k (w.alloc (.cells us.toArray e)) (.slice (some ⟨w.heap.size, 0, none⟩) 1 1) 1 cs us := by
  refine ⟨?_, ?_⟩
  · have := World.ownsRow_lit (base := base) (e := e) (size := k) w us.toArray 1 hb (by decide) (by simp [hk])
    simpa using this
  · exact h.agree (fun b h1 h2 => ⟨⟨h1, fun q => by have : w.heap.size = b := Option.some.inj q; omega⟩, Below.heap_alloc _ _ b h2⟩) (by simp)
theorem GR.push {W0 W1 w w9 : World} {base k n m g cap : Nat} {e : TypeId} {v : Value} {cs ds : List Cl} {us vs : List Value} {o : Obj} (h : GR W0 base e k w v n cs us) (hx : InS (New W1) w ds vs) (hv : ∀ q, v.ownBlock = some q → q < W1.heap.size) (hW : W0.heap.size ≤ W1.heap.size)
    (hown : w9.ownsRow base e k (.slice (some ⟨g, 0, none⟩) m cap) m (us ++ vs)) (hg : (w.alloc o).grownBy w9 v.ownBlock) (hat : v.ownBlock = some g ∨ g = w.heap.size + 1) : GR W0 base e k w9 (.slice (some ⟨g, 0, none⟩) m cap) m (cs ++ ds) (us ++ vs) := by
  have hsz : (w.alloc o).heap.size = w.heap.size + 1 := by simp
  have key : ∀ b, New W0 b → b < w.heap.size → v.ownBlock ≠ some b → (New W0 b ∧ (Value.slice (some ⟨g, 0, none⟩) m cap).ownBlock ≠ some b) ∧ w9.heap[b]? = w.heap[b]? := by
    intro b h1 h2 h3
    refine ⟨⟨h1, fun q => ?_⟩, (hg.block b (by omega) (fun q => h3 q.symm)).trans (Below.heap_alloc w o b h2)⟩
    have e1 : g = b := Option.some.inj q
    rcases hat with hat | hat
    · rw [e1] at hat; exact h3 hat
    · omega
  have hs9 : w.heap.size ≤ w9.heap.size := by have := hg.size; omega
  refine ⟨hown, InS.app (h.2.agree (fun b h1 h2 => key b h1.1 h2 h1.2) hs9) (hx.agree (fun b h1 h2 => key b (by unfold New at *; omega) h2 (fun q => ?_)) hs9)⟩
  have := hv b q
  unfold New at h1; omega
theorem GR.done {W0 w : World} {base k n : Nat} {e : TypeId} {v : Value} {cs : List Cl} {us : List Value} (h : GR W0 base e k w v n cs us) (hb : W0.heap.size ≤ base) (hl : cs.length = n * k) : InC (New W0) w (.s n k cs) v :=
  InC.of_owns h.1 (h.2.mono fun b _ hb => hb.1) (fun b hv => by have := (ownsRow_lo h.1 b hv).1; unfold New; omega) hl
theorem GR.lt {W0 w : World} {base k n : Nat} {e : TypeId} {v : Value} {cs : List Cl} {us : List Value} (h : GR W0 base e k w v n cs us) : ∀ q, v.ownBlock = some q → base ≤ q ∧ q < w.heap.size := ownsRow_lo h.1
theorem GR.shape {W0 w : World} {base k n : Nat} {e : TypeId} {v : Value} {cs : List Cl} {us : List Value} (h : GR W0 base e k w v n cs us) : ∃ a c, v = .slice a n c := own_shape h.1
theorem GR.nil (W0 w : World) (base : Nat) (e : TypeId) (k : Nat) : GR W0 base e k w (.slice none 0 0) 0 [] [] := ⟨World.ownsRow_nil _ _ _ _, InS.nil⟩

theorem rowsL_go {A : Type} {sep : Srt} {most : Nat} {one : PS → A × PS} {f : Nat} {l : List A} {τ : PS} (hf : τ.ts.length ≤ f) (h1 : l.length < most) (h2 : τ.sees sep = true) (h0 : sep.k ≠ 0) (hd : Dec one) :
    ∃ f', rowsL sep most one f l τ = rowsL sep most one f' (l ++ [(one τ.tail).1]) (one τ.tail).2 ∧ (one τ.tail).2.ts.length ≤ f' ∧ (one τ.tail).2.ts.length < τ.ts.length := by
  have hp := sees_pos h2 h0
  have h3 := hd τ.tail
  rw [tail_len] at h3
  obtain ⟨f', rfl⟩ : ∃ f', f = f' + 1 := ⟨f - 1, by omega⟩
  exact ⟨f', by rw [rowsL, if_pos ⟨h1, h2⟩], by omega, by omega⟩
theorem rowsL_end {A : Type} {sep : Srt} {most : Nat} {one : PS → A × PS} {f : Nat} {l : List A} {τ : PS} (h : ¬ (l.length < most ∧ τ.sees sep = true)) : rowsL sep most one f l τ = (l, τ) := by
  cases f with
  | zero => rfl
  | succ f => rw [rowsL, if_neg h]
theorem IsV.cn {S : Nat → Prop} {w : World} {v : Value} {x : Cn} (h : IsV S w (cnC x) v) : ∃ (a : Option Addr) (cp : Nat), v = .agg #[.string (strB x.s), .int .i64 x.p, .slice a x.args.length cp] ∧ InC S w (.s x.args.length 4 (tysC x.args)) (.slice a x.args.length cp) := by
  obtain ⟨us, rfl, h⟩ := h
  unfold cnC at h
  obtain ⟨u0, r0, rfl, l0⟩ := three_cons (n := 2) h.1
  obtain ⟨u1, r1, rfl, l1⟩ := three_cons (n := 1) l0
  obtain ⟨u2, r2, rfl, l2⟩ := three_cons (n := 0) l1
  obtain rfl := List.eq_nil_of_length_eq_zero l2
  obtain rfl := h.head.val
  obtain rfl := h.tail.head.val
  obtain ⟨a, cp, rfl, _, _⟩ := h.tail.tail.head.slice
  exact ⟨a, cp, rfl, h.tail.tail.head⟩
theorem IsV.al {S : Nat → Prop} {w : World} {v : Value} {x : Al} (h : IsV S w (alC x) v) : ∃ (p : Int) (s : By) (a1 : Option Addr) (m1 c1 : Nat) (k q n : Int) (s2 : By) (a2 a3 : Option Addr) (m2 m3 c2 c3 : Nat), v = .agg #[.int .i64 p, .string (strB s), .slice a1 m1 c1, .int .i64 k, .int .i64 q, .string (strB s2), .int .i64 n, .slice a2 m2 c2, .slice a3 m3 c3] := by
  cases x with
  | mk p s names b =>
    obtain ⟨us, rfl, h⟩ := h
    unfold alC at h
    obtain ⟨u0, r0, rfl, l0⟩ := three_cons (n := exC b |>.length.succ.succ) (by simpa using h.1)
    obtain ⟨u1, r1, rfl, l1⟩ := three_cons (n := (exC b).length + 1) l0
    obtain ⟨u2, r2, rfl, l2⟩ := three_cons (n := (exC b).length) l1
    obtain rfl := h.head.val
    obtain rfl := h.tail.head.val
    obtain ⟨a, cp, rfl, _, _⟩ := h.tail.tail.head.slice
    obtain ⟨k, q, n, s2, a2, a3, m2, m3, c2, c3, hv, _⟩ := IsV.exs (x := b) (v := .agg r2.toArray) ⟨r2, rfl, h.tail.tail.tail⟩
    have e : r2 = [.int .i64 k, .int .i64 q, .string (strB s2), .int .i64 n, .slice a2 m2 c2, .slice a3 m3 c3] := by
      have := congrArg (fun v => v.cells.toList) hv
      simpa [Value.cells] using this
    subst e
    exact ⟨p, s, a, _, cp, k, q, n, s2, a2, a3, m2, m3, c2, c3, rfl⟩

end Go.Proofs.Ytgkeblpjmfdhkaa

namespace Go.Proofs.Ytgkeblpjmfdhkaa
open Go.RowKit Go.Maps
set_option linter.unusedVariables false
set_option linter.unusedSimpArgs false

theorem Try.zinfoT : (Try.prog.info? 120).map (fun i => (i.zero, i.size, i.bytes)) = some (some (.agg #[.int .i64 0, .int .i64 0, .string ⟨#[]⟩, .slice none 0 0]), 4, 56) := by kernel_rfl

end Go.Proofs.Ytgkeblpjmfdhkaa

namespace Go.Proofs.Ytgkeblpjmfdhkaa
open Go.RowKit Go.Maps
set_option linter.unusedVariables false
set_option linter.unusedSimpArgs false

theorem Try.zinfoE : (Try.prog.info? 43).map (fun i => (i.zero, i.size, i.bytes)) = some (some (.agg #[.int .i64 0, .int .i64 0, .string ⟨#[]⟩, .int .i64 0, .slice none 0 0, .slice none 0 0]), 6, 88) := by kernel_rfl

end Go.Proofs.Ytgkeblpjmfdhkaa

namespace Go.Proofs.Ytgkeblpjmfdhkaa
open Go.RowKit Go.Maps
set_option linter.unusedVariables false
set_option linter.unusedSimpArgs false

theorem Try.zinfoC : (Try.prog.info? 59).map (fun i => (i.zero, i.size, i.bytes)) = some (some (.agg #[.string ⟨#[]⟩, .int .i64 0, .slice none 0 0]), 3, 48) := by kernel_rfl

end Go.Proofs.Ytgkeblpjmfdhkaa

namespace Go.Proofs.Ytgkeblpjmfdhkaa
open Go.RowKit Go.Maps
set_option linter.unusedVariables false
set_option linter.unusedSimpArgs false

theorem Try.zinfoA : (Try.prog.info? 161).map (fun i => (i.zero, i.size, i.bytes)) = some (some (.agg #[.int .i64 0, .string ⟨#[]⟩, .slice none 0 0, .int .i64 0, .int .i64 0, .string ⟨#[]⟩, .int .i64 0, .slice none 0 0, .slice none 0 0]), 9, 136) := by kernel_rfl

end Go.Proofs.Ytgkeblpjmfdhkaa

namespace Go.Proofs.Ytgkeblpjmfdhkaa
open Go.RowKit Go.Maps
set_option linter.unusedVariables false
set_option linter.unusedSimpArgs false

theorem Out.drew2 {R : Nat} {w w' : World} (h : Out (fun b => b = R) w.drew w') : Out (fun b => b = R) w w' := ⟨h.os, h.tape, h.output, h.size, h.block⟩
/-- All but one block, and new ones, is as it was. -/
structure Nb (B : Nat) (w w' : World) : Prop where
  os : w'.os = w.os
  tape : w'.tape = w.tape
  output : w'.output = w.output
  size : w.heap.size ≤ w'.heap.size
  block : ∀ k, k < w.heap.size → k ≠ B → w'.heap[k]? = w.heap[k]?
theorem Nb.refl (B : Nat) (w : World) : Nb B w w := ⟨rfl, rfl, rfl, Nat.le_refl _, fun _ _ _ => rfl⟩
theorem Nb.set {B : Nat} {w w' : World} (h : Nb B w w') (o : Nat) (v : Value) : Nb B w (w'.setCell ⟨B, o, none⟩ v) :=
  ⟨h.os, h.tape, h.output, by simpa using h.size, fun k hk hn => (Below.heap_setCell w' ⟨B, o, none⟩ v k hn).trans (h.block k hk hn)⟩
theorem Nb.alloc {B : Nat} {w w' : World} (h : Nb B w w') (o : Obj) : Nb B w (w'.alloc o) :=
  ⟨h.os, h.tape, h.output, Nat.le_trans h.size (by simp), fun k hk hn => (Below.heap_alloc w' o k (Nat.lt_of_lt_of_le hk h.size)).trans (h.block k hk hn)⟩
theorem Nb.drew {B : Nat} {w w' : World} (h : Nb B w w') : Nb B w w'.drew := ⟨h.os, h.tape, h.output, h.size, h.block⟩
theorem Nb.both {B : Nat} {w w' : World} (h : Nb B w w') (hs : w'.heap.size = w.heap.size) (o : Obj) : Nb B (w.alloc o) (w'.alloc o) := by
  refine ⟨h.os, h.tape, h.output, by simp [hs], fun k hk hn => ?_⟩
  simp at hk
  by_cases e : k = w.heap.size
  · subst e
    rw [heap_alloc_new w o, ← hs, heap_alloc_new w' o]
  · exact (Below.heap_alloc w' o k (by omega)).trans ((h.block k (by omega) hn).trans (Below.heap_alloc w o k (by omega)).symm)
theorem finC {W0 W w w' : World} {o : Obj} {cl : Cl} {v : Value} (hW : W0.heap.size ≤ W.heap.size) (h : InC (New (W.alloc o)) w cl v) (hn : Nb W.heap.size w w') : InC (New W0) w' cl v :=
  h.agree (fun b h1 h2 => by unfold New at *; simp at h1; exact ⟨by omega, hn.block b h2 (by omega)⟩) hn.size
theorem finV {W0 W w w' : World} {o : Obj} {cs : List Cl} {v : Value} (hW : W0.heap.size ≤ W.heap.size) (h : IsV (New (W.alloc o)) w cs v) (hn : Nb W.heap.size w w') : IsV (New W0) w' cs v :=
  h.agree (fun b h1 h2 => by unfold New at *; simp at h1; exact ⟨by omega, hn.block b h2 (by omega)⟩) hn.size
theorem tail_take {En : Nat} {σ : PS} {s : Srt} (h : σ.sees s = true) : σ.take En s = (σ.head, σ.tail) := by unfold PS.take; rw [if_pos h]
end Go.Proofs.Ytgkeblpjmfdhkaa

namespace Go.Proofs.Ytgkeblpjmfdhkaa
open Go.RowKit Go.Maps
set_option linter.unusedVariables false
set_option linter.unusedSimpArgs false

end Go.Proofs.Ytgkeblpjmfdhkaa

namespace Go.Proofs.Ytgkeblpjmfdhkaa
open Go.RowKit Go.Maps
set_option linter.unusedVariables false
set_option linter.unusedSimpArgs false

end Go.Proofs.Ytgkeblpjmfdhkaa

namespace Go.Proofs.Ytgkeblpjmfdhkaa
open Go.RowKit Go.Maps
set_option linter.unusedVariables false
set_option linter.unusedSimpArgs false

end Go.Proofs.Ytgkeblpjmfdhkaa
