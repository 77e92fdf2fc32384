/- The mathematics of reading programs: types, expressions, declarations; what the reader of package parse makes of tokens. No program. Laws on maps that a call made: look-ups and stores with the answer known; moved worlds. No program. Words on memory for trees: cells that hold numbers, texts, slices of cells, to any depth (Cl, InC); types, expressions, declarations as such cells. No program. Package parse's reader in memory: its box, its tokens, its two maps; what the grammar asks of a token, as a value. Package parse's reader: next, sees, stop, take, skip. Package parse's reader: stop, take, skip. What is carried from call to call of the reader (Car); take, skip, sees, stop, names in that form. -/
import Derived.Test.YtjfogodfpmfhhaaZAD
import Derived.DeepKeys4
import Derived.Maps.OwnSet
import Derived.Maps.OwnOps
import Derived.StringKeys
import Derived.Deep.RegionWith
import Derived.Deep.RegionHeld3
import Derived.Deep.AppendLies
namespace Go.Proofs.Ytjfogodfpmfhhaa
set_option linter.unusedVariables false
set_option linter.unusedSimpArgs false

/-- A type: its kind, number, name, kids. -/
inductive Ty where
  | mk (k n : Int) (s : By) (kids : List Ty) : Ty
structure Cn where
  s : By
  p : Int
  args : List Ty
structure Dt where
  s : By
  p : Int
  vars : List By
  cons : List Cn
mutual
def Ty.deep : Ty → Nat
  | .mk _ _ _ kids => 1 + Ty.deeps kids
def Ty.deeps : List Ty → Nat
  | [] => 0
  | x :: r => max x.deep (Ty.deeps r)
end
section
end
end Go.Proofs.Ytjfogodfpmfhhaa

namespace Go.Proofs.Ytjfogodfpmfhhaa
open Go.RowKit Go.Maps
set_option linter.unusedVariables false
set_option linter.unusedSimpArgs false

theorem ownsMap_agree {w w' : World} {P : Program} {k : TypeId} {R : Value → Option (DataW Unit × List MemPlace)} {b n : Nat} {D : DataW Unit} (h : w.ownsMap P k R b n D) (hb : w'.heap[b]? = w.heap[b]?) : w'.ownsMap P k R b n D := by
  obtain ⟨es, clock, h1, r⟩ := h
  exact ⟨es, clock, hb.trans h1, r⟩
theorem ownsMap_lt {w : World} {P : Program} {k : TypeId} {R : Value → Option (DataW Unit × List MemPlace)} {b n : Nat} {D : DataW Unit} (h : w.ownsMap P k R b n D) : b < w.heap.size := by
  obtain ⟨es, clock, h1, r⟩ := h
  exact (Array.getElem?_eq_some_iff.1 h1).1

section
variable {P : Program} {w : World} {ops : Array Oper} {o : Oper} {a : Act} {K : Act → World → Prop} {Q : Exit → Act → World → Prop} {E : Prop}
end
theorem look_plain {P : Program} {w : World} {t k e : TypeId} {q : IntKind} (KK : Keyed P k) (ht : P.underlying t = some (.map k e)) (he : P.underlying e = some (.int q)) (hz : (zeroValue e).run P w = .ok (.int q 0) w) {b n : Nat} {D : DataW Unit}
    (hown : w.ownsMap P k (plainElem P e) b n D) {key : Value} {kl : Lit} (hkey : keyOf P k key = some kl) {c : Int} (hc : D.atKey kl (.lit (.int q 0)) = .lit (.int q c)) :
    Sem.run P (Instr.lookup t (.map (some b)) key false) w = .ok (.int q c) w := by
  obtain ⟨c', hrun, hat, _⟩ := hown.lookup_int KK ht he hz hkey
  rw [hc] at hat
  have e2 : c = c' := by cases hat; rfl
  subst e2
  exact hrun

end Go.Proofs.Ytjfogodfpmfhhaa

namespace Go.Proofs.Ytjfogodfpmfhhaa
open Go.RowKit
set_option linter.unusedVariables false
set_option linter.unusedSimpArgs false

/-- A cell's content: a value, or n things of k cells each behind a slice. -/
inductive Cl where
  | v (x : Value) : Cl
  | s (n k : Nat) (l : List Cl) : Cl
/-- A cell's value says that content, in blocks of S alone. -/
inductive InC (S : Nat → Prop) (w : World) : Cl → Value → Prop where
  | v (x : Value) : InC S w (.v x) x
  | e (k : Nat) (a : Option Addr) (cp : Nat) : InC S w (.s 0 k []) (.slice a 0 cp)
  | s (n k : Nat) (l : List Cl) (b off cp : Nat) (us : List Value) (hS : S b) (hb : b < w.heap.size) (hl : l.length = n * k) (hu : us.length = l.length) (hn : n ≠ 0) (hcp : n ≤ cp) (hcm : cp ≤ maxLen)
      (hc : ∀ (i : Nat) (u : Value), us[i]? = some u → w.cell? ⟨b, off + i, none⟩ = some u)
      (hi : ∀ (i : Nat) (c : Cl) (u : Value), l[i]? = some c → us[i]? = some u → InC S w c u) : InC S w (.s n k l) (.slice (some ⟨b, off, none⟩) n cp)
/-- Values in a row say these cells. -/
def InS (S : Nat → Prop) (w : World) (cs : List Cl) (us : List Value) : Prop := us.length = cs.length ∧ ∀ (i : Nat) (c : Cl) (u : Value), cs[i]? = some c → us[i]? = some u → InC S w c u
section
variable {S S' : Nat → Prop} {w w' : World}
theorem InC.agree {c : Cl} {u : Value} (h : InC S w c u) (hs : ∀ b, S b → b < w.heap.size → S' b ∧ w'.heap[b]? = w.heap[b]?) (hz : w.heap.size ≤ w'.heap.size) : InC S' w' c u := by
  induction h with
  | v x => exact .v x
  | e k a cp => exact .e k a cp
  | s n k l b off cp us hS hb hl hu hn hcp hcm hc hi ih =>
    exact .s n k l b off cp us (hs b hS hb).1 (Nat.lt_of_lt_of_le hb hz) hl hu hn hcp hcm (fun i u hiu => (World.cell?_of_block (hs b hS hb).2).trans (hc i u hiu)) (fun i c u h1 h2 => ih i c u h1 h2)
theorem InC.mono {c : Cl} {u : Value} (h : InC S w c u) (hs : ∀ b, b < w.heap.size → S b → S' b) : InC S' w c u := h.agree (fun b h1 h2 => ⟨hs b h2 h1, rfl⟩) (Nat.le_refl _)
theorem InC.under {c : Cl} {u : Value} (h : InC S w c u) (hb : Below w.heap.size w w') : InC S w' c u := h.agree (fun b h1 h2 => ⟨h1, hb.block b h2⟩) hb.size
theorem InC.alloc {c : Cl} {u : Value} (h : InC S w c u) (o : Obj) : InC S (w.alloc o) c u := h.under ((Below.refl _ w).alloc (Nat.le_refl _) o)
theorem InC.slice {n k : Nat} {l : List Cl} {u : Value} (h : InC S w (.s n k l) u) : ∃ a cp, u = .slice a n cp ∧ n ≤ cp ∧ l.length = n * k := by
  cases h with
  | e k a cp => exact ⟨a, cp, rfl, Nat.zero_le _, by simp⟩
  | s n k l b off cp us hS hb hl hu hn hcp hcm hc hi => exact ⟨_, cp, rfl, hcp, hl⟩
theorem InC.max_len {n k : Nat} {l : List Cl} {u : Value} (h : InC S w (.s n k l) u) : n ≤ 9223372036854775807 := by
  cases h with
  | e k a cp => exact Nat.zero_le _
  | s n k l b off cp us hS hb hl hu hn hcp hcm hc hi => exact Nat.le_trans hcp hcm
theorem InC.val {x u : Value} (h : InC S w (.v x) u) : u = x := by cases h; rfl
theorem InS.under {cs : List Cl} {us : List Value} (h : InS S w cs us) (hb : Below w.heap.size w w') : InS S w' cs us := ⟨h.1, fun i c u h1 h2 => (h.2 i c u h1 h2).under hb⟩
theorem InS.nil : InS S w [] [] := ⟨rfl, fun i c u h => by simp at h⟩
theorem InS.cons {c : Cl} {u : Value} {cs : List Cl} {us : List Value} (h : InC S w c u) (k : InS S w cs us) : InS S w (c :: cs) (u :: us) := by
  refine ⟨by simp [k.1], fun i c' u' h1 h2 => ?_⟩
  cases i with
  | zero => simp at h1 h2; subst h1; subst h2; exact h
  | succ i => exact k.2 i c' u' (by simpa using h1) (by simpa using h2)
theorem InS.head {c : Cl} {u : Value} {cs : List Cl} {us : List Value} (h : InS S w (c :: cs) (u :: us)) : InC S w c u := h.2 0 c u rfl rfl
theorem InS.tail {c : Cl} {u : Value} {cs : List Cl} {us : List Value} (h : InS S w (c :: cs) (u :: us)) : InS S w cs us := ⟨by simpa using h.1, fun i c' u' h1 h2 => h.2 (i + 1) c' u' (by simpa using h1) (by simpa using h2)⟩
/-- A block that was just made says its cells. -/
theorem InC.of_new {n k : Nat} {us : List Value} {cs : List Cl} {t : TypeId} (hc : InS S w cs us) (hS : S w.heap.size) (hl : cs.length = n * k) (hn : n ≠ 0) (hm : n ≤ maxLen := by decide) : InC S (w.alloc (.cells us.toArray t)) (.s n k cs) (.slice (some ⟨w.heap.size, 0, none⟩) n n) := by
  refine .s n k cs w.heap.size 0 n us hS (by simp) hl hc.1 hn (Nat.le_refl _) hm (fun i u hi => ?_) (fun i c u h1 h2 => (hc.2 i c u h1 h2).alloc _)
  rw [Nat.zero_add, (Box.new w t us).cell i]; exact hi
/-- What a cell's content lies in. -/
theorem InC.at_ {n k : Nat} {l : List Cl} {a : Option Addr} {m cp : Nat} (h : InC S w (.s n k l) (.slice a m cp)) : m = n ∧ (n = 0 ∨ ∃ b off us, a = some ⟨b, off, none⟩ ∧ S b ∧ b < w.heap.size ∧ InS S w l us ∧ ∀ (i : Nat) (u : Value), us[i]? = some u → w.cell? ⟨b, off + i, none⟩ = some u) := by
  cases h with
  | e k a cp => exact ⟨rfl, .inl rfl⟩
  | s n k l b off cp us hS hb hl hu hn hcp hcm hc hi => exact ⟨rfl, .inr ⟨b, off, us, rfl, hS, hb, ⟨hu, hi⟩, hc⟩⟩
end

def iC (x : Int) : Cl := .v (.int .i64 x)
def bC (s : By) : Cl := .v (.string (strB s))
def strsC (l : List By) : List Cl := l.map bC
mutual
def tyC : Ty → List Cl
  | .mk k n s kids => [iC k, iC n, bC s, .s kids.length 4 (tysC kids)]
def tysC : List Ty → List Cl
  | [] => []
  | x :: r => tyC x ++ tysC r
end
def cnC (c : Cn) : List Cl := [bC c.s, iC c.p, .s c.args.length 4 (tysC c.args)]
def dtC (d : Dt) : List Cl := [bC d.s, iC d.p, .s d.vars.length 1 (strsC d.vars), .s d.cons.length 3 (d.cons.flatMap cnC)]
theorem tyC_len : ∀ t : Ty, (tyC t).length = 4
  | .mk _ _ _ _ => by simp [tyC]
theorem cnC_len (c : Cn) : (cnC c).length = 3 := rfl
theorem dtC_len (c : Dt) : (dtC c).length = 4 := rfl
theorem tysC_eq : ∀ l : List Ty, tysC l = l.flatMap tyC
  | [] => by simp [tysC]
  | x :: r => by simp [tysC, tysC_eq r]
theorem flatC_len {α : Type} {k : Nat} {f : α → List Cl} (hk : ∀ x, (f x).length = k) : ∀ (l : List α), (l.flatMap f).length = l.length * k
  | [] => by simp
  | q :: r => by rw [List.flatMap_cons, List.length_append, hk, flatC_len hk r, List.length_cons, Nat.add_mul]; omega
/-- A struct's value says these cells. -/
def IsV (S : Nat → Prop) (w : World) (cs : List Cl) (v : Value) : Prop := ∃ us : List Value, v = .agg us.toArray ∧ InS S w cs us
theorem three_cons {us : List Value} {n : Nat} (h : us.length = n + 1) : ∃ a r, us = a :: r ∧ r.length = n := by
  cases us with
  | nil => simp at h
  | cons a r => exact ⟨a, r, rfl, by simpa using h⟩
section
variable {S S' : Nat → Prop} {w w' : World} {v : Value} {cs : List Cl}
theorem IsV.under (h : IsV S w cs v) (hb : Below w.heap.size w w') : IsV S w' cs v := by
  obtain ⟨us, rfl, h1⟩ := h; exact ⟨us, rfl, h1.under hb⟩
theorem IsV.ty {k n : Int} {s : By} {kids : List Ty} (h : IsV S w (tyC (.mk k n s kids)) v) : ∃ a cp, v = .agg #[.int .i64 k, .int .i64 n, .string (strB s), .slice a kids.length cp] ∧ InC S w (.s kids.length 4 (tysC kids)) (.slice a kids.length cp) := by
  obtain ⟨us, rfl, h⟩ := h
  unfold tyC at h
  obtain ⟨u0, r0, rfl, l0⟩ := three_cons (n := 3) h.1
  obtain ⟨u1, r1, rfl, l1⟩ := three_cons (n := 2) l0
  obtain ⟨u2, r2, rfl, l2⟩ := three_cons (n := 1) l1
  obtain ⟨u3, r3, rfl, l3⟩ := three_cons (n := 0) l2
  obtain rfl := List.eq_nil_of_length_eq_zero l3
  obtain rfl := h.head.val
  obtain rfl := h.tail.head.val
  obtain rfl := h.tail.tail.head.val
  obtain ⟨a, cp, rfl, _, _⟩ := h.tail.tail.tail.head.slice
  exact ⟨a, cp, rfl, h.tail.tail.tail.head⟩
end
/-- Blocks that are new in w. -/
def New (w : World) : Nat → Prop := fun b => w.heap.size ≤ b

end Go.Proofs.Ytjfogodfpmfhhaa

namespace Go.Proofs.Ytjfogodfpmfhhaa
open Go.RowKit Go.Maps
open Go.WideMaps (KeyLaw)
set_option linter.unusedVariables false
set_option linter.unusedSimpArgs false

theorem strB_inj {a b : By} (h : strB a = strB b) : a = b := by
  have := congrArg (fun s : ByteArray => s.data.toList) h
  simpa [strB] using this
theorem Try.sortLaid : laidOutB Try.prog = true := by kernel_rfl
theorem Try.zzeroInt (w : World) : (zeroValue 3).run Try.prog w = .ok (.int .i64 0) w := by kernel_rfl
theorem four_cells {w : World} {b : Nat} {t : TypeId} {c0 c1 c2 c3 : Value} (h : Box w b t [c0, c1, c2, c3]) : w.cell? ⟨b, 0, none⟩ = some c0 ∧ w.cell? ⟨b, 1, none⟩ = some c1 ∧ w.cell? ⟨b, 2, none⟩ = some c2 ∧ w.cell? ⟨b, 3, none⟩ = some c3 :=
  ⟨h.cell 0, h.cell 1, h.cell 2, h.cell 3⟩
theorem four_frozen {w : World} {b : Nat} {t : TypeId} {c0 c1 c2 c3 : Value} (h : Box w b t [c0, c1, c2, c3]) : w.frozen? ⟨b, 0, none⟩ = false ∧ w.frozen? ⟨b, 1, none⟩ = false ∧ w.frozen? ⟨b, 2, none⟩ = false ∧ w.frozen? ⟨b, 3, none⟩ = false :=
  ⟨h.frozen 0, h.frozen 1, h.frozen 2, h.frozen 3⟩

end Go.Proofs.Ytjfogodfpmfhhaa

namespace Go.Proofs.Ytjfogodfpmfhhaa
open Go.RowKit Go.Maps
set_option linter.unusedVariables false
set_option linter.unusedSimpArgs false

end Go.Proofs.Ytjfogodfpmfhhaa

namespace Go.Proofs.Ytjfogodfpmfhhaa
open Go.RowKit Go.Maps
set_option linter.unusedVariables false
set_option linter.unusedSimpArgs false

end Go.Proofs.Ytjfogodfpmfhhaa

namespace Go.Proofs.Ytjfogodfpmfhhaa
open Go.RowKit Go.Maps
set_option linter.unusedVariables false
set_option linter.unusedSimpArgs false

end Go.Proofs.Ytjfogodfpmfhhaa
