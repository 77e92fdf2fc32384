/- Words on memory for trees: cells that hold numbers, texts, slices of cells, to any depth (Cl, InC); types, expressions, declarations as such cells. No program. -/
import Derived.Test.YtpfcpeljfgmjgaaDoorZm
import Derived.Test.YtpfcpeljfgmjgaaDoorLexd
import Derived.Test.YtpfcpeljfgmjgaaDoorTout
namespace Go.Proofs.YtpfcpeljfgmjgaaDoor
open Go.RowKit
set_option linter.unusedVariables false
set_option linter.unusedSimpArgs false

/-- A cell's content: a value, or n things of k cells each behind a slice. -/
inductive Cl where
  | v (x : Value) : Cl
  | s (n k : Nat) (l : List Cl) : Cl
/-- A cell's value says that content, in blocks of S alone. -/
inductive InC (S : Nat → Prop) (w : World) : Cl → Value → Prop where
  | v (x : Value) : InC S w (.v x) x
  | e (k : Nat) (a : Option Addr) (cp : Nat) : InC S w (.s 0 k []) (.slice a 0 cp)
  | s (n k : Nat) (l : List Cl) (b off cp : Nat) (us : List Value) (hS : S b) (hb : b < w.heap.size) (hl : l.length = n * k) (hu : us.length = l.length) (hn : n ≠ 0) (hcp : n ≤ cp) (hcm : cp ≤ maxLen)
      (hc : ∀ (i : Nat) (u : Value), us[i]? = some u → w.cell? ⟨b, off + i, none⟩ = some u)
      (hi : ∀ (i : Nat) (c : Cl) (u : Value), l[i]? = some c → us[i]? = some u → InC S w c u) : InC S w (.s n k l) (.slice (some ⟨b, off, none⟩) n cp)
/-- Values in a row say these cells. -/
def InS (S : Nat → Prop) (w : World) (cs : List Cl) (us : List Value) : Prop := us.length = cs.length ∧ ∀ (i : Nat) (c : Cl) (u : Value), cs[i]? = some c → us[i]? = some u → InC S w c u
section
variable {S S' : Nat → Prop} {w w' : World}
theorem InC.agree {c : Cl} {u : Value} (h : InC S w c u) (hs : ∀ b, S b → b < w.heap.size → S' b ∧ w'.heap[b]? = w.heap[b]?) (hz : w.heap.size ≤ w'.heap.size) : InC S' w' c u := by
  induction h with
  | v x => exact .v x
  | e k a cp => exact .e k a cp
  | s n k l b off cp us hS hb hl hu hn hcp hcm hc hi ih =>
    exact .s n k l b off cp us (hs b hS hb).1 (Nat.lt_of_lt_of_le hb hz) hl hu hn hcp hcm (fun i u hiu => (World.cell?_of_block (hs b hS hb).2).trans (hc i u hiu)) (fun i c u h1 h2 => ih i c u h1 h2)
theorem InC.mono {c : Cl} {u : Value} (h : InC S w c u) (hs : ∀ b, b < w.heap.size → S b → S' b) : InC S' w c u := h.agree (fun b h1 h2 => ⟨hs b h2 h1, rfl⟩) (Nat.le_refl _)
theorem InC.out {T : Nat → Prop} {c : Cl} {u : Value} (h : InC S w c u) (ho : Out T w w') (hn : ∀ b, b < w.heap.size → S b → ¬ T b) : InC S w' c u := h.agree (fun b h1 h2 => ⟨h1, ho.block b h2 (hn b h2 h1)⟩) ho.size
theorem InC.under {c : Cl} {u : Value} (h : InC S w c u) (hb : Below w.heap.size w w') : InC S w' c u := h.agree (fun b h1 h2 => ⟨h1, hb.block b h2⟩) hb.size
theorem InC.alloc {c : Cl} {u : Value} (h : InC S w c u) (o : Obj) : InC S (w.alloc o) c u := h.under ((Below.refl _ w).alloc (Nat.le_refl _) o)
theorem InC.drew {c : Cl} {u : Value} (h : InC S w c u) : InC S w.drew c u := h.agree (fun b h1 h2 => ⟨h1, rfl⟩) (Nat.le_refl _)
theorem InC.set {c : Cl} {u : Value} (h : InC S w c u) {p : Addr} (hp : p.block < w.heap.size → ¬ S p.block) (x : Value) : InC S (w.setCell p x) c u :=
  h.agree (fun b h1 h2 => ⟨h1, Below.heap_setCell w p x b (fun e => hp (e ▸ h2) (e ▸ h1))⟩) (by simp)
theorem InC.slice {n k : Nat} {l : List Cl} {u : Value} (h : InC S w (.s n k l) u) : ∃ a cp, u = .slice a n cp ∧ n ≤ cp ∧ l.length = n * k := by
  cases h with
  | e k a cp => exact ⟨a, cp, rfl, Nat.zero_le _, by simp⟩
  | s n k l b off cp us hS hb hl hu hn hcp hcm hc hi => exact ⟨_, cp, rfl, hcp, hl⟩
theorem InC.max_len {n k : Nat} {l : List Cl} {u : Value} (h : InC S w (.s n k l) u) : n ≤ 9223372036854775807 := by
  cases h with
  | e k a cp => exact Nat.zero_le _
  | s n k l b off cp us hS hb hl hu hn hcp hcm hc hi => exact Nat.le_trans hcp hcm
theorem InC.val {x u : Value} (h : InC S w (.v x) u) : u = x := by cases h; rfl
theorem InS.agree {cs : List Cl} {us : List Value} (h : InS S w cs us) (hs : ∀ b, S b → b < w.heap.size → S' b ∧ w'.heap[b]? = w.heap[b]?) (hz : w.heap.size ≤ w'.heap.size) : InS S' w' cs us := ⟨h.1, fun i c u h1 h2 => (h.2 i c u h1 h2).agree hs hz⟩
theorem InS.mono {cs : List Cl} {us : List Value} (h : InS S w cs us) (hs : ∀ b, b < w.heap.size → S b → S' b) : InS S' w cs us := ⟨h.1, fun i c u h1 h2 => (h.2 i c u h1 h2).mono hs⟩
theorem InS.out {T : Nat → Prop} {cs : List Cl} {us : List Value} (h : InS S w cs us) (ho : Out T w w') (hn : ∀ b, b < w.heap.size → S b → ¬ T b) : InS S w' cs us := ⟨h.1, fun i c u h1 h2 => (h.2 i c u h1 h2).out ho hn⟩
theorem InS.under {cs : List Cl} {us : List Value} (h : InS S w cs us) (hb : Below w.heap.size w w') : InS S w' cs us := ⟨h.1, fun i c u h1 h2 => (h.2 i c u h1 h2).under hb⟩
theorem InS.alloc {cs : List Cl} {us : List Value} (h : InS S w cs us) (o : Obj) : InS S (w.alloc o) cs us := ⟨h.1, fun i c u h1 h2 => (h.2 i c u h1 h2).alloc o⟩
theorem InS.drew {cs : List Cl} {us : List Value} (h : InS S w cs us) : InS S w.drew cs us := ⟨h.1, fun i c u h1 h2 => (h.2 i c u h1 h2).drew⟩
theorem InS.set {cs : List Cl} {us : List Value} (h : InS S w cs us) {p : Addr} (hp : p.block < w.heap.size → ¬ S p.block) (x : Value) : InS S (w.setCell p x) cs us := ⟨h.1, fun i c u h1 h2 => (h.2 i c u h1 h2).set hp x⟩
theorem InS.nil : InS S w [] [] := ⟨rfl, fun i c u h => by simp at h⟩
theorem InS.app {cs ds : List Cl} {us vs : List Value} (h : InS S w cs us) (k : InS S w ds vs) : InS S w (cs ++ ds) (us ++ vs) := by
  refine ⟨by rw [List.length_append, List.length_append, h.1, k.1], fun i c u h1 h2 => ?_⟩
  by_cases hi : i < cs.length
  · rw [List.getElem?_append_left hi] at h1
    rw [List.getElem?_append_left (by rw [h.1]; exact hi)] at h2
    exact h.2 i c u h1 h2
  · rw [List.getElem?_append_right (by omega)] at h1
    rw [List.getElem?_append_right (by rw [h.1]; omega), h.1] at h2
    exact k.2 _ c u h1 h2
theorem InS.cons {c : Cl} {u : Value} {cs : List Cl} {us : List Value} (h : InC S w c u) (k : InS S w cs us) : InS S w (c :: cs) (u :: us) := by
  refine ⟨by simp [k.1], fun i c' u' h1 h2 => ?_⟩
  cases i with
  | zero => simp at h1 h2; subst h1; subst h2; exact h
  | succ i => exact k.2 i c' u' (by simpa using h1) (by simpa using h2)
theorem InS.head {c : Cl} {u : Value} {cs : List Cl} {us : List Value} (h : InS S w (c :: cs) (u :: us)) : InC S w c u := h.2 0 c u rfl rfl
theorem InS.tail {c : Cl} {u : Value} {cs : List Cl} {us : List Value} (h : InS S w (c :: cs) (u :: us)) : InS S w cs us := ⟨by simpa using h.1, fun i c' u' h1 h2 => h.2 (i + 1) c' u' (by simpa using h1) (by simpa using h2)⟩
/-- A row that a call owns says its cells. -/
theorem InC.of_owns {base e n k : Nat} {v : Value} {us : List Value} {cs : List Cl} (h : w.ownsRow base e k v n us) (hc : InS S w cs us) (hS : ∀ b, v.ownBlock = some b → S b) (hl : cs.length = n * k) : InC S w (.s n k cs) v := by
  obtain ⟨hun, ⟨rfl, h0⟩ | ⟨g, cap, cur, rfl, hb, hg, hcap, hn, hsz, ht⟩⟩ := h
  · subst h0
    have : cs = [] := List.eq_nil_of_length_eq_zero (by simpa using hl)
    subst this; exact .e _ _ _
  · by_cases hn0 : n = 0
    · subst hn0
      have : cs = [] := List.eq_nil_of_length_eq_zero (by simpa using hl)
      subst this; exact .e _ _ _
    · refine .s n k cs g 0 cap us (hS g rfl) (Array.getElem?_eq_some_iff.1 hg).1 hl hc.1 hn0 hcap hn (fun i u hi => ?_) hc.2
      rw [Nat.zero_add, cell_of_row w g i cur e (0, 0) hg]
      rw [← ht, List.getElem?_take] at hi
      split at hi
      · simpa using hi
      · cases hi
/-- A block that was just made says its cells. -/
theorem InC.of_new {n k : Nat} {us : List Value} {cs : List Cl} {t : TypeId} (hc : InS S w cs us) (hS : S w.heap.size) (hl : cs.length = n * k) (hn : n ≠ 0) (hm : n ≤ maxLen := by decide) : InC S (w.alloc (.cells us.toArray t)) (.s n k cs) (.slice (some ⟨w.heap.size, 0, none⟩) n n) := by
  refine .s n k cs w.heap.size 0 n us hS (by simp) hl hc.1 hn (Nat.le_refl _) hm (fun i u hi => ?_) (fun i c u h1 h2 => (hc.2 i c u h1 h2).alloc _)
  rw [Nat.zero_add, (Box.new w t us).cell i]; exact hi
/-- What a cell's content lies in. -/
theorem InC.at_ {n k : Nat} {l : List Cl} {a : Option Addr} {m cp : Nat} (h : InC S w (.s n k l) (.slice a m cp)) : m = n ∧ (n = 0 ∨ ∃ b off us, a = some ⟨b, off, none⟩ ∧ S b ∧ b < w.heap.size ∧ InS S w l us ∧ ∀ (i : Nat) (u : Value), us[i]? = some u → w.cell? ⟨b, off + i, none⟩ = some u) := by
  cases h with
  | e k a cp => exact ⟨rfl, .inl rfl⟩
  | s n k l b off cp us hS hb hl hu hn hcp hcm hc hi => exact ⟨rfl, .inr ⟨b, off, us, rfl, hS, hb, ⟨hu, hi⟩, hc⟩⟩
end

/-! ### Types, expressions, declarations as cells -/
def iC (x : Int) : Cl := .v (.int .i64 x)
def bC (s : By) : Cl := .v (.string (strB s))
def strsC (l : List By) : List Cl := l.map bC
mutual
def tyC : Ty → List Cl
  | .mk k n s kids => [iC k, iC n, bC s, .s kids.length 4 (tysC kids)]
def tysC : List Ty → List Cl
  | [] => []
  | x :: r => tyC x ++ tysC r
end
mutual
def exC : Ex → List Cl
  | .mk k p s n kids alts => [iC k, iC p, bC s, iC n, .s kids.length 6 (exsC kids), .s alts.length 9 (alsC alts)]
def exsC : List Ex → List Cl
  | [] => []
  | x :: r => exC x ++ exsC r
def alC : Al → List Cl
  | .mk p s names b => iC p :: bC s :: .s names.length 1 (strsC names) :: exC b
def alsC : List Al → List Cl
  | [] => []
  | x :: r => alC x ++ alsC r
end
def cnC (c : Cn) : List Cl := [bC c.s, iC c.p, .s c.args.length 4 (tysC c.args)]
def dtC (d : Dt) : List Cl := [bC d.s, iC d.p, .s d.vars.length 1 (strsC d.vars), .s d.cons.length 3 (d.cons.flatMap cnC)]
def bdC (b : Bd) : List Cl := bC b.s :: iC b.p :: exC b.body
def pgC (p : Pg) : List Cl := [.s p.datas.length 4 (p.datas.flatMap dtC), .s p.binds.length 8 (p.binds.flatMap bdC)]
theorem tyC_len : ∀ t : Ty, (tyC t).length = 4
  | .mk _ _ _ _ => by simp [tyC]
theorem exC_len : ∀ t : Ex, (exC t).length = 6
  | .mk _ _ _ _ _ _ => by simp [exC]
theorem alC_len : ∀ t : Al, (alC t).length = 9
  | .mk _ _ _ b => by simp [alC, exC_len]
theorem cnC_len (c : Cn) : (cnC c).length = 3 := rfl
theorem dtC_len (c : Dt) : (dtC c).length = 4 := rfl
theorem bdC_len (c : Bd) : (bdC c).length = 8 := by simp [bdC, exC_len]
theorem tysC_eq : ∀ l : List Ty, tysC l = l.flatMap tyC
  | [] => by simp [tysC]
  | x :: r => by simp [tysC, tysC_eq r]
theorem exsC_eq : ∀ l : List Ex, exsC l = l.flatMap exC
  | [] => by simp [exsC]
  | x :: r => by simp [exsC, exsC_eq r]
theorem alsC_eq : ∀ l : List Al, alsC l = l.flatMap alC
  | [] => by simp [alsC]
  | x :: r => by simp [alsC, alsC_eq r]
theorem flatC_len {α : Type} {k : Nat} {f : α → List Cl} (hk : ∀ x, (f x).length = k) : ∀ (l : List α), (l.flatMap f).length = l.length * k
  | [] => by simp
  | q :: r => by rw [List.flatMap_cons, List.length_append, hk, flatC_len hk r, List.length_cons, Nat.add_mul]; omega
theorem strsC_len (l : List By) : (strsC l).length = l.length * 1 := by simp [strsC]

/-! ### Struct values -/
/-- A struct's value says these cells. -/
def IsV (S : Nat → Prop) (w : World) (cs : List Cl) (v : Value) : Prop := ∃ us : List Value, v = .agg us.toArray ∧ InS S w cs us
theorem three_cons {us : List Value} {n : Nat} (h : us.length = n + 1) : ∃ a r, us = a :: r ∧ r.length = n := by
  cases us with
  | nil => simp at h
  | cons a r => exact ⟨a, r, rfl, by simpa using h⟩
section
variable {S S' : Nat → Prop} {w w' : World} {v : Value} {cs : List Cl}
theorem IsV.agree (h : IsV S w cs v) (hs : ∀ b, S b → b < w.heap.size → S' b ∧ w'.heap[b]? = w.heap[b]?) (hz : w.heap.size ≤ w'.heap.size) : IsV S' w' cs v := by
  obtain ⟨us, rfl, h1⟩ := h; exact ⟨us, rfl, h1.agree hs hz⟩
theorem IsV.mono (h : IsV S w cs v) (hs : ∀ b, b < w.heap.size → S b → S' b) : IsV S' w cs v := by
  obtain ⟨us, rfl, h1⟩ := h; exact ⟨us, rfl, h1.mono hs⟩
theorem IsV.out {T : Nat → Prop} (h : IsV S w cs v) (ho : Out T w w') (hn : ∀ b, b < w.heap.size → S b → ¬ T b) : IsV S w' cs v := by
  obtain ⟨us, rfl, h1⟩ := h; exact ⟨us, rfl, h1.out ho hn⟩
theorem IsV.under (h : IsV S w cs v) (hb : Below w.heap.size w w') : IsV S w' cs v := by
  obtain ⟨us, rfl, h1⟩ := h; exact ⟨us, rfl, h1.under hb⟩
theorem IsV.cells (h : IsV S w cs v) : InS S w cs v.cells.toList := by
  obtain ⟨us, rfl, h1⟩ := h; simpa [Value.cells] using h1
theorem IsV.mk {us : List Value} (h : InS S w cs us) : IsV S w cs (.agg us.toArray) := ⟨us, rfl, h⟩
theorem IsV.ty {k n : Int} {s : By} {kids : List Ty} (h : IsV S w (tyC (.mk k n s kids)) v) : ∃ a cp, v = .agg #[.int .i64 k, .int .i64 n, .string (strB s), .slice a kids.length cp] ∧ InC S w (.s kids.length 4 (tysC kids)) (.slice a kids.length cp) := by
  obtain ⟨us, rfl, h⟩ := h
  unfold tyC at h
  obtain ⟨u0, r0, rfl, l0⟩ := three_cons (n := 3) h.1
  obtain ⟨u1, r1, rfl, l1⟩ := three_cons (n := 2) l0
  obtain ⟨u2, r2, rfl, l2⟩ := three_cons (n := 1) l1
  obtain ⟨u3, r3, rfl, l3⟩ := three_cons (n := 0) l2
  obtain rfl := List.eq_nil_of_length_eq_zero l3
  obtain rfl := h.head.val
  obtain rfl := h.tail.head.val
  obtain rfl := h.tail.tail.head.val
  obtain ⟨a, cp, rfl, _, _⟩ := h.tail.tail.tail.head.slice
  exact ⟨a, cp, rfl, h.tail.tail.tail.head⟩
theorem IsV.of_ty {k n : Int} {s : By} {kids : List Ty} {a : Value} (h : InC S w (.s kids.length 4 (tysC kids)) a) : IsV S w (tyC (.mk k n s kids)) (.agg #[.int .i64 k, .int .i64 n, .string (strB s), a]) :=
  ⟨[_, _, _, _], rfl, by unfold tyC; exact InS.cons (.v _) (InS.cons (.v _) (InS.cons (.v _) (InS.cons h InS.nil)))⟩
theorem IsV.ex {k p n : Int} {s : By} {kids : List Ex} {alts : List Al} (h : IsV S w (exC (.mk k p s n kids alts)) v) : ∃ a cp a' cp', v = .agg #[.int .i64 k, .int .i64 p, .string (strB s), .int .i64 n, .slice a kids.length cp, .slice a' alts.length cp'] ∧ InC S w (.s kids.length 6 (exsC kids)) (.slice a kids.length cp) ∧ InC S w (.s alts.length 9 (alsC alts)) (.slice a' alts.length cp') := by
  obtain ⟨us, rfl, h⟩ := h
  unfold exC at h
  obtain ⟨u0, r0, rfl, l0⟩ := three_cons (n := 5) h.1
  obtain ⟨u1, r1, rfl, l1⟩ := three_cons (n := 4) l0
  obtain ⟨u2, r2, rfl, l2⟩ := three_cons (n := 3) l1
  obtain ⟨u3, r3, rfl, l3⟩ := three_cons (n := 2) l2
  obtain ⟨u4, r4, rfl, l4⟩ := three_cons (n := 1) l3
  obtain ⟨u5, r5, rfl, l5⟩ := three_cons (n := 0) l4
  obtain rfl := List.eq_nil_of_length_eq_zero l5
  obtain rfl := h.head.val
  obtain rfl := h.tail.head.val
  obtain rfl := h.tail.tail.head.val
  obtain rfl := h.tail.tail.tail.head.val
  obtain ⟨a, cp, rfl, _, _⟩ := h.tail.tail.tail.tail.head.slice
  obtain ⟨a', cp', rfl, _, _⟩ := h.tail.tail.tail.tail.tail.head.slice
  exact ⟨a, cp, a', cp', rfl, h.tail.tail.tail.tail.head, h.tail.tail.tail.tail.tail.head⟩
theorem IsV.of_ex {k p n : Int} {s : By} {kids : List Ex} {alts : List Al} {a b : Value} (h : InC S w (.s kids.length 6 (exsC kids)) a) (h' : InC S w (.s alts.length 9 (alsC alts)) b) : IsV S w (exC (.mk k p s n kids alts)) (.agg #[.int .i64 k, .int .i64 p, .string (strB s), .int .i64 n, a, b]) :=
  ⟨[_, _, _, _, _, _], rfl, by unfold exC; exact InS.cons (.v _) (InS.cons (.v _) (InS.cons (.v _) (InS.cons (.v _) (InS.cons h (InS.cons h' InS.nil)))))⟩
/-- An expression, whatever it is. -/
theorem IsV.exs {x : Ex} (h : IsV S w (exC x) v) : ∃ (k p n : Int) (s : By) (a a' : Option Addr) (m m' cp cp' : Nat), v = .agg #[.int .i64 k, .int .i64 p, .string (strB s), .int .i64 n, .slice a m cp, .slice a' m' cp'] ∧ x.at = p := by
  cases x with
  | mk k p s n kids alts =>
    obtain ⟨a, cp, a', cp', rfl, _⟩ := h.ex
    exact ⟨k, p, n, s, a, a', _, _, cp, cp', rfl, rfl⟩
theorem IsV.tys {x : Ty} (h : IsV S w (tyC x) v) : ∃ (k n : Int) (s : By) (a : Option Addr) (m cp : Nat), v = .agg #[.int .i64 k, .int .i64 n, .string (strB s), .slice a m cp] := by
  cases x with
  | mk k n s kids =>
    obtain ⟨a, cp, rfl, _⟩ := h.ty
    exact ⟨k, n, s, a, _, cp, rfl⟩
end
theorem zero_ex (S : Nat → Prop) (w : World) : IsV S w (exC Ex.zero) (.agg #[.int .i64 0, .int .i64 0, .string ⟨#[]⟩, .int .i64 0, .slice none 0 0, .slice none 0 0]) := IsV.of_ex (.e _ _ _) (.e _ _ _)
theorem zero_ty (S : Nat → Prop) (w : World) : IsV S w (tyC Ty.zero) (.agg #[.int .i64 0, .int .i64 0, .string ⟨#[]⟩, .slice none 0 0]) := IsV.of_ty (.e _ _ _)
/-- Blocks that are new in w. -/
def New (w : World) : Nat → Prop := fun b => w.heap.size ≤ b

end Go.Proofs.YtpfcpeljfgmjgaaDoor
