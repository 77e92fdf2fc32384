/- The law SccChain. -/
import Derived.Test.YtalhpdgpnfedkaaGmk
import Derived.Test.YtalhpdgpnfedkaaGaw
import Derived.Test.YtalhpdgpnfedkaaGcm
import Derived.Test.YtalhpdgpnfedkaaGoc
import Derived.Test.YtalhpdgpnfedkaaGxo
import Derived.BigQuiet
namespace Go.Proofs.Ytalhpdgpnfedkaa
open Go.RowKit Go.Maps
set_option linter.unusedVariables false
set_option linter.unusedSimpArgs false

theorem own_low {w : World} {base base' e size n : Nat} {v : Value} {xs : List Value} (h : w.ownsRow base e size v n xs) (hb : base' ≤ base) : w.ownsRow base' e size v n xs := by
  obtain ⟨h1, h2 | ⟨g, cap, cur, h2, h3, h4⟩⟩ := h
  · exact ⟨h1, .inl h2⟩
  · exact ⟨h1, .inr ⟨g, cap, cur, h2, by omega, h4⟩⟩

theorem wrap_u16 (x : Nat) (h : x ≤ 65535) : IntKind.i64.wrap (x : Int) = (x : Int) := IntWalk.i64_in _ (by omega)
structure CR (k i : Nat) (g : Gr) : Prop where
  len : g.length = k
  row : ∀ j, j < i → rowG g j = [((j + 1 : Nat) : Int)]
  rest : ∀ j, i ≤ j → rowG g j = []
theorem CR.zero (k : Nat) : CR k 0 (List.replicate k []) := ⟨by simp, fun j h => by omega, fun j _ => by unfold rowG; rw [List.getD_eq_getElem?_getD, List.getElem?_replicate]; split <;> rfl⟩
theorem CR.next {k i : Nat} {g : Gr} (h : CR k i g) (hi : i < k) : CR k (i + 1) (g.set i [((i + 1 : Nat) : Int)]) := by
  refine ⟨by simp [h.len], fun j hj => ?_, fun j hj => ?_⟩
  · by_cases e : i = j
    · subst e; exact rowG_set_self (by rw [h.len]; exact hi)
    · rw [rowG_set_other e]; exact h.row j (by omega)
  · rw [rowG_set_other (by omega)]; exact h.rest j (by omega)
theorem CR.chain {k i : Nat} {g : Gr} (h : CR k i g) (hi : i + 1 = k) : IsChain k none g := ⟨h.len, fun j hj => h.row j (by omega), fun _ => h.rest _ (by omega)⟩
theorem CR.ring {k i b : Nat} {g : Gr} (h : CR k i g) (hi : i + 1 = k) : IsChain k (some b) (g.set (k - 1) [(b : Int)]) := by
  refine ⟨by simp [h.len], fun j hj => ?_, fun _ => ?_⟩
  · rw [rowG_set_other (by omega)]; exact h.row j (by omega)
  · exact rowG_set_self (by rw [h.len]; omega)

section
variable {ev : Operand → Value} {o : Oper} {w : World} {x y z : Operand} {v u : Value}
theorem xlen1 {s : Option Addr} {l c : Nat} (ho : o.op = Op.call { callee := .builtin .len, args := #[x], argTypes := #[30] }) (h : ev x = .slice s l c) : (execOp ev o).run Try.prog w = .ok (.value (.int .i64 l)) w := by
  unfold execOp
  rw [ho]
  simp only [h]
  go_simp
theorem xload2 {p : Addr} {c : Value} (ho : o.op = .load 30 x) (h : ev x = .pointer (some p)) (h1 : w.cell? p = some c) : (execOp ev o).run Try.prog w = .ok (.value c) w := by
  unfold execOp
  rw [ho]
  simp only [h]
  go_simp
theorem xindex2 {p q k c m : Nat} (ho : o.op = .indexAddr 22 x y) (h : ev x = .slice (some ⟨p, q, none⟩) k c) (h1 : ev y = .int .i64 (m : Int)) (hm : m < k) : (execOp ev o).run Try.prog w = .ok (.value (.pointer (some ⟨p, q + m, none⟩))) w := by
  unfold execOp
  rw [ho]
  simp only [h, h1]
  go_simp
theorem xsub {c d e : Int} (ho : o.op = .binOp .sub 3 x y 3) (h : ev x = .int .i64 c) (h1 : ev y = .int .i64 d) (he : IntKind.i64.wrap (c - d) = e) : (execOp ev o).run Try.prog w = .ok (.value (.int .i64 e)) w := by
  subst he
  unfold execOp
  rw [ho]
  simp only [h, h1]
  go_simp
theorem xslice {p q k c b : Nat} (ho : o.op = .slice 22 x none (some y) none) (h : ev x = .slice (some ⟨p, q, none⟩) k c) (h1 : ev y = .int .i64 (b : Int)) (hb : b ≤ c) : (execOp ev o).run Try.prog w = .ok (.value (.slice (some ⟨p, q, none⟩) b c)) w := by
  unfold execOp
  rw [ho]
  simp only [h, Option.map, h1]
  go_simp
end
theorem res_chain {tmps : Array Value} {W : World} (h4 : tmps[4]? = some (.bool true)) : (results Try.f7 tmps).run Try.prog W = .ok (.bool true) W := by
  simp only [results, Try.results7]
  go_simp
section
variable {P : Program} {ops : Array Oper} {Q : Exit → Act → World → Prop} {o : Oper} {K : Act → World → Prop} {a : Act} {w : World}
theorem wp_call2 (f : FuncId) (fn : Func) (hf : P.funcs[f]? = some fn) (hnm : fn.name ≠ "runtime.NumGoroutine") (hbd : fn.body ≠ none) (x y : Operand) (c d : Value) (hx : a.eval x = c) (hy : a.eval y = d) (ts : Array TypeId) (hop : o.op = Op.call { callee := .value (.func f), args := #[x, y], argTypes := ts }) {v : Value} {B : World → Prop}
    (hc : Calls P f #[c, d] w fun e w' => e = .returned v ∧ B w') (h : ∀ w', B w' → K (a.put o.dst v) w') : Oper.wp P o a w K Q := by
  unfold Oper.wp
  have q : (execOp a.eval o).run P w = .ok (.enter f #[c, d]) w := by
    have e1 : a.eval (.func f) = .func (.func f) #[] #[] := rfl
    simp [execOp, hop, Result.andThen, resolve, invoke, Deferred.ofValue, callFunc, program, e1, hx, hy, show Sem.run P (Sem.program Sem.pure) w = .ok P w from rfl, hf, hnm, hbd]
  rw [q]
  exact Calls.mono hc (by rintro e w1 ⟨rfl, hb⟩; exact h _ hb)
end
theorem GI.take {hi : Nat} {w : World} {a : Option Addr} {n b : Nat} {g : Gr} (h : GI hi w a n g) (hb : b ≤ n) : GI hi w a b (g.take b) := by
  obtain ⟨h1, h2, h3, h4⟩ := h
  have hrow : ∀ i, i < b → rowG (g.take b) i = rowG g i := fun i hi => by unfold rowG; rw [List.getD_eq_getElem?_getD, List.getD_eq_getElem?_getD, List.getElem?_take_of_lt hi]
  refine ⟨by simp; omega, by omega, fun i => ?_, ?_⟩
  · by_cases hi : i < b
    · rw [hrow i hi]; exact h3 i
    · unfold rowG; rw [List.getD_eq_getElem?_getD, List.getElem?_eq_none (by simp; omega)]; simp
  · rcases h4 with h4 | ⟨p, off, e, hp, hc⟩
    · exact .inl (by omega)
    · refine .inr ⟨p, off, e, hp, fun i hi => ?_⟩
      rw [hrow i hi]
      exact hc i (by omega)

theorem own_none (w : World) : (w.alloc (.cells #[] 30)).ownsRow w.heap.size 30 1 (.slice (some ⟨w.heap.size, 0, none⟩) 0 0) 0 [] :=
  ⟨rfl, .inr ⟨w.heap.size, 0, #[], rfl, Nat.le_refl _, alloc_at w _, Nat.le_refl _, by unfold maxLen; omega, rfl, rfl⟩⟩
theorem grd_one {w : World} {o p i k c : Nat} (x : Nat) {vs : List Value} {rows : Gr} (hG : Grd w o (.slice (some ⟨p, 0, none⟩) k c) vs rows) (hl : rows.length = k) (hi : i < k) :
    Grd ((w.setCell ⟨p, i, none⟩ (.slice (some ⟨w.heap.size, 0, none⟩) 1 1)).alloc (.cells #[.int .i64 (x : Int)] 3)) o (.slice (some ⟨p, 0, none⟩) k c) (vs.set i (.slice (some ⟨w.heap.size, 0, none⟩) 1 1)) (rows.set i [(x : Int)]) := by
  have hol := ownsRow_lo hG.own p rfl
  have h9 := hG.put (W := w) (w9 := w.alloc (.cells #[.int .i64 (x : Int)] 3)) (i := i) (o := p) (n := k) (cap := c) (g := w.heap.size) (c := 1) (r := [(x : Int)]) (by rw [hl]; exact hi) rfl (Below.refl _ _) (World.grownBy_alloc w _ _) (by
    have := own_low (own_first (w := w) (x := x)) (base' := o) (by omega)
    simpa [intR, intsOf] using this) (.inr rfl)
  rw [World.setCell_alloc_past _ _ _ _ hol.2] at h9
  exact h9
theorem grd_copy {wr w2 w9 : World} {o k g9 cap9 : Nat} {vs : List Value} {rows : Gr} (hG : Grd wr o (.slice (some ⟨o, 0, none⟩) k k) vs rows) (hk : rows.length = k) (hb : Below wr.heap.size wr w2)
    (hown : w9.ownsRow w2.heap.size 30 1 (.slice (some ⟨g9, 0, none⟩) (0 + k) cap9) (0 + k) ([] ++ vs)) (hgr : (w2.alloc (.cells #[] 30)).grownBy w9 (some w2.heap.size)) :
    Grd w9 o (.slice (some ⟨g9, 0, none⟩) k cap9) vs rows ∧ Below w2.heap.size w2 w9 ∧ w2.heap.size ≤ g9 ∧ g9 < w9.heap.size := by
  rw [Nat.zero_add, List.nil_append] at hown
  have hlo := ownsRow_lo hown g9 rfl
  have hol := ownsRow_lo hG.own o rfl
  have hs := hb.size
  have hb9 : Below w2.heap.size w2 w9 := ((Below.refl _ w2).alloc (Nat.le_refl _) _).grown hgr (by simp) (fun j hj => by cases hj; exact Nat.le_refl _)
  have hW : Below wr.heap.size wr w9 := hb.trans (hb9.mono hs)
  refine ⟨⟨by rw [hk]; exact own_low hown (by omega), fun i hi => ownsRow_below (hG.row i hi) hW, fun i hi q hq e => ?_, hG.dj⟩, hb9, hlo.1, hlo.2⟩
  have h1 := (ownsRow_lo (hG.row i hi) q hq).2
  have e' : g9 = q := by simpa [Value.ownBlock] using e
  omega
theorem grd_cells {w : World} {o p k c : Nat} {vs : List Value} {rows : Gr} (hG : Grd w o (.slice (some ⟨p, 0, none⟩) k c) vs rows) : ∀ u ∈ vs, u.oneCell' = true := by
  intro u hu
  obtain ⟨i, hi, rfl⟩ := List.getElem_of_mem hu
  have hr := hG.row i (by rw [← hG.len]; exact hi)
  have e : vg vs i = vs[i] := by simp [vg, List.getD, hi]
  rw [e] at hr
  obtain ⟨_, ⟨h, _⟩ | ⟨_, _, _, h, _⟩⟩ := hr <;> rw [h] <;> rfl

set_option maxRecDepth 100000 in
set_option maxHeartbeats 16000000 in
theorem chain_law (kn kb : Nat) (w : World) (hkn : kn ≤ 65535) (hkb : kb ≤ 65535) :
    Calls Try.prog 7 #[.int .u16 (kn : Int), .int .u16 (kb : Int)] w fun e w' => e = .returned (.bool true) ∧ Below w.heap.size w w' := by
  obtain ⟨j0, hj0, hy0, hy1, hy2⟩ := info_parts Try.gRowInfo
  obtain ⟨r, hr⟩ : ∃ r, kn % 300 = r := ⟨_, rfl⟩
  have hr3 : r < 300 := by omega
  have er1 : (kn : Int) % 300 = (r : Int) := by omega
  have er2 : (kn : Int).tmod 300 = (r : Int) := by rw [Int.tmod_eq_emod_of_nonneg (by omega)]; exact er1
  obtain ⟨k, hk⟩ : ∃ k, 1 + r = k := ⟨_, rfl⟩
  have hk3 : k ≤ 300 := by omega
  have hk0 : 0 < k := by omega
  have ek : 1 + (r : Int) = (k : Int) := by omega
  obtain ⟨b, hbe⟩ : ∃ b, kb % k = b := ⟨_, rfl⟩
  have hbk : b < k := by rw [← hbe]; exact Nat.mod_lt _ hk0
  have eb1 : (kb : Int) % (k : Int) = (b : Int) := by rw [← hbe]; exact (Int.natCast_emod kb k).symm
  have eb2 : (kb : Int).tmod (k : Int) = (b : Int) := by rw [Int.tmod_eq_emod_of_nonneg (by omega)]; exact eb1
  have ek0 : ((k : Int) == 0) = false := by simp; omega
  have ek1 : ¬ k = 0 := by omega
  have hmk : (Instr.makeSlice 22 (.int .i64 (k : Int)) (.int .i64 (k : Int))).run Try.prog w = .ok (.slice (some ⟨w.heap.size, 0, none⟩) k k) (w.alloc (.cells (List.replicate k (Value.slice none 0 0)).toArray 30)) := by
    have h := run_make (P := Try.prog) w 22 30 j0 (.slice none 0 0) Try.underlying22 hj0 hy0 .i64 .i64 (k : Int) (k : Int) (by omega) (by omega) (by rw [hy2]; omega) (by omega)
    rw [hy1] at h
    have hm : madeCells (Value.slice none 0 0).cells (((k : Nat) : Int).toNat * 1) = (List.replicate k (Value.slice none 0 0)).toArray := by
      apply Array.ext'
      have := toList_madeCells_one (Value.slice none 0 0) k
      rw [show (Value.slice none 0 0).cells = #[Value.slice none 0 0] from rfl]
      simpa using this
    rw [hm] at h
    simpa using h
  obtain ⟨w1, hw1⟩ : ∃ w1, w.alloc (.cells (List.replicate k (Value.slice none 0 0)).toArray 30) = w1 := ⟨_, rfl⟩
  have HG0 : Hid (Grd w1 w.heap.size (.slice (some ⟨w.heap.size, 0, none⟩) k k) (List.replicate k (Value.slice none 0 0)) (List.replicate k [])) := by rw [← hw1]; exact grd_made (by omega)
  have HB0 : Hid (Below w.heap.size w w1) := by show Below _ _ _; rw [← hw1]; exact (Below.refl _ _).alloc (Nat.le_refl _) _
  rw [hw1] at hmk
  obtain ⟨o, ho⟩ : ∃ o, w.heap.size = o := ⟨_, rfl⟩
  rw [ho] at hmk HG0 HB0
  have HO := Lib.hid ho
  have HP0 := Lib.hid (CR.zero k)
  clear hw1 ho hr hk hbe
  go_enter Try.func7, Try.ntmps7
  go_wp2_with fail
  go_loopw [7] (fun iv wr => ∃ (i : Nat) (rows : Gr) (vs : List Value), i + 1 ≤ k ∧ iv = .int .i64 (i : Int) ∧ Hid (CR k i rows) ∧ Hid (Grd wr o (.slice (some ⟨o, 0, none⟩) k k) vs rows) ∧ Hid (Below o w wr)) (fun iv _ => k - (intOf iv).toNat)
  case atStart => exact ⟨0, _, _, by omega, rfl, HP0, HG0, HB0⟩
  case round =>
    clear HP0 HG0 HB0 hmk
    obtain ⟨i, rows, vs, hi1, rfl, HC, HG, HB⟩ := hrel
    have hol := (ownsRow_lo HG.out.own o rfl).2
    by_cases hlt : i + 1 < k
    · have hlti : (i : Int) + 1 < (k : Int) := by omega
      have hlen := HC.out.len
      have hG := HG.out
      have hgo := hG.own
      rw [hlen] at hgo
      have hfo : wr.frozen? ⟨o, i, none⟩ = false := hgo.frozenAt i
      have hco := hgo.cells (g := o) rfl i (vg vs i) (by simp [vg, List.getD, show i < vs.length by rw [hG.len, hlen]; omega])
      rw [Addr.add_lit, Nat.zero_add] at hco
      obtain ⟨u, hu⟩ : ∃ u, vg vs i = u := ⟨_, rfl⟩
      rw [hu] at hco
      have T1 : ∀ W, Sem.run Try.prog (Instr.indexAt 22 (.slice (some ⟨o, 0, none⟩) k k) (.int .i64 (i : Int))) W = .ok (.pointer (some ⟨o, i, none⟩)) W := fun W => by
        have : i < k := by omega
        go_simp
      have HN := Lib.hid (HC.out.next (show i < k by omega))
      have e1 : ((i + 1 : Nat) : Int) = (i : Int) + 1 := by omega
      have HG2 : Hid (Grd ((wr.setCell ⟨o, i, none⟩ (.slice (some ⟨wr.heap.size, 0, none⟩) 1 1)).alloc (.cells #[.int .i64 ((i : Int) + 1)] 3)) o (.slice (some ⟨o, 0, none⟩) k k) (vs.set i (.slice (some ⟨wr.heap.size, 0, none⟩) 1 1)) (rows.set i [((i + 1 : Nat) : Int)])) := by
        have h9 := hG.put (W := wr) (w9 := wr.alloc (.cells #[.int .i64 ((i : Int) + 1)] 3)) (i := i) (o := o) (n := k) (cap := k) (g := wr.heap.size) (c := 1) (r := [((i + 1 : Nat) : Int)]) (by rw [hlen]; omega) rfl (Below.refl _ _) (World.grownBy_alloc wr _ _) (by
          have := own_low (own_first (w := wr) (x := i + 1)) (base' := o) (Nat.le_of_lt hol)
          rw [e1] at this ⊢
          simpa [intR, intsOf] using this) (.inr rfl)
        rw [World.setCell_alloc_past _ _ _ _ hol] at h9
        exact h9
      have HB2 : Hid (Below o w ((wr.setCell ⟨o, i, none⟩ (.slice (some ⟨wr.heap.size, 0, none⟩) 1 1)).alloc (.cells #[.int .i64 ((i : Int) + 1)] 3))) := by
        rw [← World.setCell_alloc_past _ _ _ _ hol]
        exact (HB.out.alloc (by have := HB.out.size; have := HO.out; omega) _).setCell (p := ⟨o, i, none⟩) (Nat.le_refl _) _
      have hil : i < k := by omega
      clear hlen hG hgo hu e1
      go_wp2_with fail
      go_roundw
      case rel => exact ⟨i + 1, _, _, by omega, by go_num, HN, HG2, HB2⟩
      case measure => simp [intOf]; omega
    · have hik : i + 1 = k := by omega
      have hge : ¬ ((i : Int) + 1 < (k : Int)) := by omega
      have hCh := HC.out.chain hik
      have hRi := HC.out.ring (b := b) hik
      have HCH := Lib.hid hCh
      have ek9 : k - 1 = i := by omega
      rw [ek9] at hRi
      have HRI := Lib.hid hRi
      clear ek9
      have hlen := HC.out.len
      have HLEN := Lib.hid hlen
      have HRW : Hid (∀ q, (rowG rows q).length ≤ 1000000) := (fun q => by
        by_cases e : q < i
        · rw [HC.out.row q e]; simp
        · rw [HC.out.rest q (by omega)]; simp)
      have hrd := HG.out.read (by omega) HRW.out
      obtain ⟨av, cv, e, hgi⟩ := hrd
      injection e with e1 e2 e3
      subst e1
      subst e3
      rw [hlen] at hgi
      have HGI := Lib.hid hgi
      have HOF := Lib.hid (of_cap _ k k rows wr hgi (Nat.le_refl _) (by omega))
      have hl1 : (grpL rows).length = k := by rw [chain_groups hCh]; simp
      rw [hl1] at HOF
      have HBQ := HB
      have hik1 : (k : Int) - 1 = (i : Int) := by omega
      have wkb := wrap_u16 kb hkb
      have HVL : Hid (vs.length = k) := Lib.hid (by rw [HG.out.len, hlen])
      have HOL := Lib.hid hol
      have hikl : i < k := by omega
      clear hCh hRi hgi hlen hl1 e2 hol
      have eb5 : ((b + 1 : Nat) : Int) = (b : Int) + 1 := by omega
      go_upto_region 14 with (first
        | (go_at_call 10; (with_reducible refine (HOF.out).mono ?_); rintro e w2 ⟨hb2, al, cl, rfl, hgi2, hcp2⟩; have HB2 := Lib.hid hb2; have HG2 := Lib.hid hgi2; have HC2 := Lib.hid hcp2; clear hb2 hgi2 hcp2 HOF)
        | (go_at_call 10; (with_reducible refine (HOF2.out).mono ?_); rintro e w6 ⟨hb6, am, cm, rfl, hgi6, hcp6⟩; have HB6 := Lib.hid hb6; have HG6 := Lib.hid hgi6; have HC6 := Lib.hid hcp6; clear hb6 hgi6 hcp6 HOF2)
        | (at_builtin; refine wpList_append_lies _ rfl _ _ 22 rfl w2.heap.size 30 j0 (.slice none 0 0) 1 24 Try.underlying22 hj0 hy0 hy1 hy2 rfl (by decide) _ 0 [] rfl (own_none w2) ⟨o, 0, none⟩ k k vs rfl (by rw [HVL.out, Nat.mul_one]) (fun j u hj => (ownsRow_below (ownsRow_below HG.out.own HB2.out) ((Below.refl _ w2).alloc (Nat.le_refl _) _)).cells (g := o) rfl j u hj) (grd_cells HG.out) hk0 (by unfold maxLen; omega) (by omega) (by simp) _ rfl ?_
           intro g9 cap9 w9 hown9 hgr9 hat9 hlt9
           obtain ⟨hG9, hb9, hg9, hg9'⟩ := grd_copy HG.out HLEN.out HB2.out hown9 hgr9
           have hgo9 := hG9.own
           rw [HLEN.out] at hgo9
           have hfo9 : w9.frozen? ⟨g9, i, none⟩ = false := hgo9.frozenAt i
           have hco9 := hgo9.cells (g := g9) rfl i (vg vs i) (by simp [vg, List.getD, show i < vs.length by rw [HVL.out]; omega])
           rw [Addr.add_lit, Nat.zero_add] at hco9
           obtain ⟨u9, hu9⟩ : ∃ u, vg vs i = u := ⟨_, rfl⟩
           rw [hu9] at hco9
           have T2 : ∀ W, Sem.run Try.prog (Instr.indexAt 22 (.slice (some ⟨g9, 0, none⟩) k cap9) (.int .i64 (i : Int))) W = .ok (.pointer (some ⟨g9, i, none⟩)) W := fun W => by go_simp
           have hg5 := grd_one b hG9 HLEN.out hikl
           obtain ⟨av5, cv5, e5, hgi5⟩ := hg5.read (by rw [List.length_set, HLEN.out]; omega) (fun q => by
             by_cases e : i = q
             · subst e; rw [rowG_set_self (by rw [HLEN.out]; exact hikl)]; simp
             · rw [rowG_set_other e]; exact HRW.out q)
           rw [List.length_set, HLEN.out] at hgi5
           injection e5 with e51 e52 e53
           subst e51
           have HOF2 := Lib.hid (of_cap _ k cap9 _ _ hgi5 (Nat.le_refl _) (by omega))
           have hrl : (grpL (rows.set i [(b : Int)])).length = b + 1 := by rw [ring_groups HRI.out hbk]; simp
           rw [hrl] at HOF2
           have HRL := Lib.hid hrl
           have HGI5 := Lib.hid hgi5
           have HB5 := Lib.hid ((hb9.setCell (p := ⟨g9, i, none⟩) hg9 (.slice (some ⟨w9.heap.size, 0, none⟩) 1 1)).alloc (by have := hb9.size; simpa [World.setCell] using this) (.cells #[.int .i64 (b : Int)] 3))
           clear hg5 hgi5 hrl e52 e53
           have HL9 := Lib.hid hg9
           clear hown9 hgr9 hat9 hlt9 hG9 hb9 hg9 hgo9 hu9))
      rename_i K9 hK9
      obtain ⟨mb, mo, ai, ci, em, hmb, hcm6, _⟩ := HG6.out.row (x := b) (by omega)
      subst em
      obtain ⟨lb, lo, _, _, el, _, _, _⟩ := HG2.out.row (x := 0) hk0
      subst el
      have hrb : (rowG (grpL (rows.set i [(b : Int)])) b).length = k - b := by
        rw [ring_groups HRI.out hbk]
        unfold rowG
        rw [List.getD_eq_getElem?_getD, List.getElem?_append_right (by simp)]
        simp only [List.length_map, List.length_range, Nat.sub_self, List.getElem?_cons_zero, Option.getD_some]
        have := ring_last hbk
        simpa using this
      obtain ⟨kb9, hkb9⟩ : ∃ q, k - b = q := ⟨_, rfl⟩
      rw [hrb, hkb9] at hcm6
      have hcm := hcm6
      have hsub : IntKind.i64.wrap ((k : Int) - (b : Int)) = (kb9 : Int) := by
        rw [show (k : Int) - (b : Int) = (kb9 : Int) by omega]
        exact IntWalk.i64_in _ (by omega)
      have hsub1 : IntKind.i64.wrap ((k : Int) - 1) = (i : Int) := by
        rw [show (k : Int) - 1 = (i : Int) by omega]
        exact IntWalk.i64_in _ (by omega)
      have hbl : b ≤ cl := by have := HC2.out; omega
      have hbm : b ≤ cm := by have := HC6.out; omega
      have tk : (grpL rows).take b = (grpL (rows.set i [(b : Int)])).take b := by
        rw [chain_groups HCH.out, ring_groups HRI.out hbk, List.take_append_of_le_length (by simp), ← List.map_take, List.take_range, Nat.min_eq_left (Nat.le_of_lt hbk), List.take_of_length_le (by simp)]
      have HB26 := HB5.out.trans (HB6.out.mono HB5.out.size)
      have HBr6 := HB2.out.trans (HB26.mono HB2.out.size)
      have hG2' := (HG2.out.below HB26 (Nat.le_refl _)).mono HB26.size
      have hGr := (HGI.out.below HBr6 (Nat.le_refl _)).mono HBr6.size
      have hGh := (HGI5.out.below HB6.out (Nat.le_refl _)).mono HB6.out.size
      have hrl := HLEN.out
      have hrl2 : (rows.set i [(b : Int)]).length = k := by rw [List.length_set, hrl]
      have HSM : Hid (∀ W, Below w6.heap.size w6 W → Calls Try.prog 9 #[.slice (some ⟨lb, lo, none⟩) b cl, .slice (some ⟨mb, mo, none⟩) b cm] W fun e w' => e = .returned (.bool true) ∧ Below W.heap.size W w') := fun W hW => by
        have h9 := same_any W _ _ (some ⟨lb, lo, none⟩) (some ⟨mb, mo, none⟩) b b cl cm ((hG2'.take (show b ≤ k by omega)).below hW (Nat.le_refl _)) ((HG6.out.take (show b ≤ b + 1 by omega)).below hW (Nat.le_refl _)) hW.size hW.size
        have hd : decide ((grpL rows).take b = (grpL (rows.set i [(b : Int)])).take b) = true := decide_eq_true tk
        rw [hd] at h9
        exact h9
      have HR1 : Hid (∀ W, Below w6.heap.size w6 W → Calls Try.prog 12 #[.slice (some ⟨o, 0, none⟩) k k, .int .i64 0, .int .i64 (i : Int)] W fun e w' => e = .returned (.bool true) ∧ Below W.heap.size W w') := fun W hW => by
        have h9 := reach_any (some ⟨o, 0, none⟩) k k rows 0 (i : Int) W (hGr.below hW (Nat.le_refl _)) hW.size (by omega)
        have hd : rchB rows 0 (i : Int) = true := (rchB_nat (a := 0) (b := i) (by omega) (by omega)).2 ((chain_rch HCH.out hk0 hikl).2 (Nat.zero_le _))
        rw [hd] at h9
        exact h9
      have HR3 : Hid (∀ W, Below w6.heap.size w6 W → Calls Try.prog 12 #[.slice (some ⟨g9, 0, none⟩) k cap9, .int .i64 (i : Int), .int .i64 (b : Int)] W fun e w' => e = .returned (.bool true) ∧ Below W.heap.size W w') := fun W hW => by
        have h9 := reach_any (some ⟨g9, 0, none⟩) k cap9 _ (i : Int) (b : Int) W (hGh.below hW (Nat.le_refl _)) hW.size (by omega)
        have hd : rchB (rows.set i [(b : Int)]) (i : Int) (b : Int) = true := (rchB_nat (a := i) (b := b) (by omega) (by omega)).2 ((ring_rch HRI.out hbk hikl hbk).2 (.inr (Nat.le_refl _)))
        rw [hd] at h9
        exact h9
      have HAW : Hid (∀ W, Below w6.heap.size w6 W → Calls Try.prog 14 #[] W fun e w' => e = .returned (.bool true) ∧ Below W.heap.size W w') := fun W h => awake_any W
      have HBF : Hid (∀ W, Below w6.heap.size w6 W → Below w.heap.size w W) := fun W hW => by
        have h1 := HB.out.trans ((HBr6.trans (hW.mono HBr6.size)).mono (Nat.le_of_lt HOL.out))
        rw [HO.out]
        exact h1
      by_cases hk1 : k = 1
      · have ek7 : ((k : Int) == (1 : Int)) = true := by simp; omega
        clear hk1
        refine wp_region_typed (V := fun zq v _ => v = ([.slice (some ⟨mb, mo, none⟩) (b + 1) cm, .int .i64 (b : Int), .pointer (some ⟨mb, mo + b, none⟩), .slice ai kb9 ci, .int .i64 (kb9 : Int), .int .i64 (k : Int), .int .i64 (b : Int), .int .i64 (kb9 : Int), .bool true, .bool true, .slice (some ⟨lb, lo, none⟩) k cl, .int .i64 (b : Int), .slice (some ⟨lb, lo, none⟩) b cl, .slice (some ⟨mb, mo, none⟩) (b + 1) cm, .int .i64 (b : Int), .slice (some ⟨mb, mo, none⟩) b cm, .bool true, .bool true, .bool true, .slice (some ⟨o, 0, none⟩) k k, .int .i64 (k : Int), .int .i64 (i : Int), .bool true, .bool true, .bool true, .int .i64 (k : Int), .bool true, .bool true, undef, undef, undef, undef, undef, .bool true, .bool true, .bool true, .slice (some ⟨g9, 0, none⟩) k cap9, .int .i64 (k : Int), .int .i64 (i : Int), .int .i64 (b : Int), .bool true, .bool true, .bool true, .bool true, .bool true, .bool true] : List Value).getD zq undef) (by rfl) (fun z v w w' h hb => h) (by kernel_rfl) (dst_in (by kernel_rfl)) ?_ ?_
        · intro z0 o0 a w1 hi hb1 hrest hdep
          have hlt : z0 < 46 := (Array.getElem?_eq_some_iff.1 hi).1
          have ez : z0 = 0 ∨ z0 = 1 ∨ z0 = 2 ∨ z0 = 3 ∨ z0 = 4 ∨ z0 = 5 ∨ z0 = 6 ∨ z0 = 7 ∨ z0 = 8 ∨ z0 = 9 ∨ z0 = 10 ∨ z0 = 11 ∨ z0 = 12 ∨ z0 = 13 ∨ z0 = 14 ∨ z0 = 15 ∨ z0 = 16 ∨ z0 = 17 ∨ z0 = 18 ∨ z0 = 19 ∨ z0 = 20 ∨ z0 = 21 ∨ z0 = 22 ∨ z0 = 23 ∨ z0 = 24 ∨ z0 = 25 ∨ z0 = 26 ∨ z0 = 27 ∨ z0 = 28 ∨ z0 = 29 ∨ z0 = 30 ∨ z0 = 31 ∨ z0 = 32 ∨ z0 = 33 ∨ z0 = 34 ∨ z0 = 35 ∨ z0 = 36 ∨ z0 = 37 ∨ z0 = 38 ∨ z0 = 39 ∨ z0 = 40 ∨ z0 = 41 ∨ z0 = 42 ∨ z0 = 43 ∨ z0 = 44 ∨ z0 = 45 := by omega
          rcases ez with rfl | rfl | rfl | rfl | rfl | rfl | rfl | rfl | rfl | rfl | rfl | rfl | rfl | rfl | rfl | rfl | rfl | rfl | rfl | rfl | rfl | rfl | rfl | rfl | rfl | rfl | rfl | rfl | rfl | rfl | rfl | rfl | rfl | rfl | rfl | rfl | rfl | rfl | rfl | rfl | rfl | rfl | rfl | rfl | rfl | rfl
          · obtain rfl := Option.some.inj hi
            have e11 : a.eval (.tmp 11) = .slice (some ⟨mb, mo, none⟩) (b + 1) cm := eval_of ((hrest 11 (no_dst0 (by kernel_rfl))).trans rfl)
            exact wpOp_of rfl rfl (wp_run (v := .slice (some ⟨mb, mo, none⟩) (b + 1) cm) (w' := w1) (xmove rfl e11) ⟨_, rfl, rfl, Below.refl _ w1⟩)
          · obtain rfl := Option.some.inj hi
            have e8 : a.eval (.tmp 8) = .int .i64 (b : Int) := eval_of ((hrest 8 (no_dst0 (by kernel_rfl))).trans rfl)
            exact wpOp_of rfl rfl (wp_run (v := .int .i64 (b : Int)) (w' := w1) (xmove rfl e8) ⟨_, rfl, rfl, Below.refl _ w1⟩)
          · obtain rfl := Option.some.inj hi
            obtain ⟨u58, h58, g58⟩ := hdep ⟨0, .data⟩ (by simp) rfl _ 58 rfl rfl
            have g58 : u58 = .slice (some ⟨mb, mo, none⟩) (b + 1) cm := g58
            subst g58
            have e58 := eval_of h58
            obtain ⟨u59, h59, g59⟩ := hdep ⟨1, .data⟩ (by simp) rfl _ 59 rfl rfl
            have g59 : u59 = .int .i64 (b : Int) := g59
            subst g59
            have e59 := eval_of h59
            exact wpOp_of rfl rfl (wp_run (v := .pointer (some ⟨mb, mo + b, none⟩)) (w' := w1) (xindex2 rfl e58 e59 (by omega)) ⟨_, rfl, rfl, Below.refl _ w1⟩)
          · obtain rfl := Option.some.inj hi
            obtain ⟨u60, h60, g60⟩ := hdep ⟨2, .data⟩ (by simp) rfl _ 60 rfl rfl
            have g60 : u60 = .pointer (some ⟨mb, mo + b, none⟩) := g60
            subst g60
            have e60 := eval_of h60
            exact wpOp_of rfl rfl (wp_run (v := .slice ai kb9 ci) (w' := w1) (xload2 rfl e60 ((hb1.cell (p := ⟨mb, mo + b, none⟩) hmb).trans hcm)) ⟨_, rfl, rfl, Below.refl _ w1⟩)
          · obtain rfl := Option.some.inj hi
            obtain ⟨u61, h61, g61⟩ := hdep ⟨3, .data⟩ (by simp) rfl _ 61 rfl rfl
            have g61 : u61 = .slice ai kb9 ci := g61
            subst g61
            have e61 := eval_of h61
            exact wpOp_of rfl rfl (wp_run (v := .int .i64 (kb9 : Int)) (w' := w1) (xlen1 rfl e61) ⟨_, rfl, rfl, Below.refl _ w1⟩)
          · obtain rfl := Option.some.inj hi
            have e5 : a.eval (.tmp 5) = .int .i64 (k : Int) := eval_of ((hrest 5 (no_dst0 (by kernel_rfl))).trans rfl)
            exact wpOp_of rfl rfl (wp_run (v := .int .i64 (k : Int)) (w' := w1) (xmove rfl e5) ⟨_, rfl, rfl, Below.refl _ w1⟩)
          · obtain rfl := Option.some.inj hi
            have e8 : a.eval (.tmp 8) = .int .i64 (b : Int) := eval_of ((hrest 8 (no_dst0 (by kernel_rfl))).trans rfl)
            exact wpOp_of rfl rfl (wp_run (v := .int .i64 (b : Int)) (w' := w1) (xmove rfl e8) ⟨_, rfl, rfl, Below.refl _ w1⟩)
          · obtain rfl := Option.some.inj hi
            obtain ⟨u63, h63, g63⟩ := hdep ⟨5, .data⟩ (by simp) rfl _ 63 rfl rfl
            have g63 : u63 = .int .i64 (k : Int) := g63
            subst g63
            have e63 := eval_of h63
            obtain ⟨u64, h64, g64⟩ := hdep ⟨6, .data⟩ (by simp) rfl _ 64 rfl rfl
            have g64 : u64 = .int .i64 (b : Int) := g64
            subst g64
            have e64 := eval_of h64
            exact wpOp_of rfl rfl (wp_run (v := .int .i64 (kb9 : Int)) (w' := w1) (xsub rfl e63 e64 hsub) ⟨_, rfl, rfl, Below.refl _ w1⟩)
          · obtain rfl := Option.some.inj hi
            obtain ⟨u62, h62, g62⟩ := hdep ⟨4, .data⟩ (by simp) rfl _ 62 rfl rfl
            have g62 : u62 = .int .i64 (kb9 : Int) := g62
            subst g62
            have e62 := eval_of h62
            obtain ⟨u65, h65, g65⟩ := hdep ⟨7, .data⟩ (by simp) rfl _ 65 rfl rfl
            have g65 : u65 = .int .i64 (kb9 : Int) := g65
            subst g65
            have e65 := eval_of h65
            exact wpOp_of rfl rfl (wp_run (v := .bool true) (w' := w1) ((xeqi rfl e62 e65).trans (by rw [beq_self_eq_true])) ⟨_, rfl, rfl, Below.refl _ w1⟩)
          · obtain rfl := Option.some.inj hi
            obtain ⟨u66, h66, g66⟩ := hdep ⟨8, .data⟩ (by simp) rfl _ 66 rfl rfl
            have g66 : u66 = .bool true := g66
            subst g66
            have e66 := eval_of h66
            exact wpOp_of rfl rfl (wp_run (v := .bool true) (w' := w1) (xmove rfl e66) ⟨_, rfl, rfl, Below.refl _ w1⟩)
          · obtain rfl := Option.some.inj hi
            obtain ⟨gu, gh, gg⟩ := hdep ⟨9, .guard⟩ (by simp) rfl _ 67 rfl rfl
            have gg : gu = .bool true := gg
            subst gg
            have e9 : a.eval (.tmp 9) = .slice (some ⟨lb, lo, none⟩) k cl := eval_of ((hrest 9 (no_dst0 (by kernel_rfl))).trans rfl)
            exact wpOp_yes rfl rfl rfl rfl gh (wp_run (v := .slice (some ⟨lb, lo, none⟩) k cl) (w' := w1) (xmove rfl e9) ⟨_, rfl, rfl, Below.refl _ w1⟩)
          · obtain rfl := Option.some.inj hi
            obtain ⟨gu, gh, gg⟩ := hdep ⟨9, .guard⟩ (by simp) rfl _ 67 rfl rfl
            have gg : gu = .bool true := gg
            subst gg
            have e8 : a.eval (.tmp 8) = .int .i64 (b : Int) := eval_of ((hrest 8 (no_dst0 (by kernel_rfl))).trans rfl)
            exact wpOp_yes rfl rfl rfl rfl gh (wp_run (v := .int .i64 (b : Int)) (w' := w1) (xmove rfl e8) ⟨_, rfl, rfl, Below.refl _ w1⟩)
          · obtain rfl := Option.some.inj hi
            obtain ⟨gu, gh, gg⟩ := hdep ⟨9, .guard⟩ (by simp) rfl _ 67 rfl rfl
            have gg : gu = .bool true := gg
            subst gg
            obtain ⟨u68, h68, g68⟩ := hdep ⟨10, .data⟩ (by simp) rfl _ 68 rfl rfl
            have g68 : u68 = .slice (some ⟨lb, lo, none⟩) k cl := g68
            subst g68
            have e68 := eval_of h68
            obtain ⟨u69, h69, g69⟩ := hdep ⟨11, .data⟩ (by simp) rfl _ 69 rfl rfl
            have g69 : u69 = .int .i64 (b : Int) := g69
            subst g69
            have e69 := eval_of h69
            exact wpOp_yes rfl rfl rfl rfl gh (wp_run (v := .slice (some ⟨lb, lo, none⟩) b cl) (w' := w1) (xslice rfl e68 e69 hbl) ⟨_, rfl, rfl, Below.refl _ w1⟩)
          · obtain rfl := Option.some.inj hi
            obtain ⟨gu, gh, gg⟩ := hdep ⟨9, .guard⟩ (by simp) rfl _ 67 rfl rfl
            have gg : gu = .bool true := gg
            subst gg
            have e11 : a.eval (.tmp 11) = .slice (some ⟨mb, mo, none⟩) (b + 1) cm := eval_of ((hrest 11 (no_dst0 (by kernel_rfl))).trans rfl)
            exact wpOp_yes rfl rfl rfl rfl gh (wp_run (v := .slice (some ⟨mb, mo, none⟩) (b + 1) cm) (w' := w1) (xmove rfl e11) ⟨_, rfl, rfl, Below.refl _ w1⟩)
          · obtain rfl := Option.some.inj hi
            obtain ⟨gu, gh, gg⟩ := hdep ⟨9, .guard⟩ (by simp) rfl _ 67 rfl rfl
            have gg : gu = .bool true := gg
            subst gg
            have e8 : a.eval (.tmp 8) = .int .i64 (b : Int) := eval_of ((hrest 8 (no_dst0 (by kernel_rfl))).trans rfl)
            exact wpOp_yes rfl rfl rfl rfl gh (wp_run (v := .int .i64 (b : Int)) (w' := w1) (xmove rfl e8) ⟨_, rfl, rfl, Below.refl _ w1⟩)
          · obtain rfl := Option.some.inj hi
            obtain ⟨gu, gh, gg⟩ := hdep ⟨9, .guard⟩ (by simp) rfl _ 67 rfl rfl
            have gg : gu = .bool true := gg
            subst gg
            obtain ⟨u71, h71, g71⟩ := hdep ⟨13, .data⟩ (by simp) rfl _ 71 rfl rfl
            have g71 : u71 = .slice (some ⟨mb, mo, none⟩) (b + 1) cm := g71
            subst g71
            have e71 := eval_of h71
            obtain ⟨u72, h72, g72⟩ := hdep ⟨14, .data⟩ (by simp) rfl _ 72 rfl rfl
            have g72 : u72 = .int .i64 (b : Int) := g72
            subst g72
            have e72 := eval_of h72
            exact wpOp_yes rfl rfl rfl rfl gh (wp_run (v := .slice (some ⟨mb, mo, none⟩) b cm) (w' := w1) (xslice rfl e71 e72 hbm) ⟨_, rfl, rfl, Below.refl _ w1⟩)
          · obtain rfl := Option.some.inj hi
            obtain ⟨gu, gh, gg⟩ := hdep ⟨9, .guard⟩ (by simp) rfl _ 67 rfl rfl
            have gg : gu = .bool true := gg
            subst gg
            obtain ⟨u70, h70, g70⟩ := hdep ⟨12, .data⟩ (by simp) rfl _ 70 rfl rfl
            have g70 : u70 = .slice (some ⟨lb, lo, none⟩) b cl := g70
            subst g70
            have e70 := eval_of h70
            obtain ⟨u73, h73, g73⟩ := hdep ⟨15, .data⟩ (by simp) rfl _ 73 rfl rfl
            have g73 : u73 = .slice (some ⟨mb, mo, none⟩) b cm := g73
            subst g73
            have e73 := eval_of h73
            exact wpOp_yes rfl rfl rfl rfl gh (wp_call2 _ _ Try.func9 (by decide) (by intro hh; cases hh) _ _ _ _ e70 e73 _ rfl (HSM.out w1 hb1) (fun w' hb => ⟨_, rfl, rfl, hb⟩))
          · obtain rfl := Option.some.inj hi
            obtain ⟨u67, h67, g67⟩ := hdep ⟨9, .data⟩ (by simp) rfl _ 67 rfl rfl
            have g67 : u67 = .bool true := g67
            subst g67
            have e67 := eval_of h67
            obtain ⟨u74, h74, g74⟩ := hdep ⟨16, .data⟩ (by simp) rfl _ 74 rfl rfl
            have g74 : u74 = .bool true := g74
            subst g74
            have e74 := eval_of h74
            exact wpOp_of rfl rfl (wp_run (v := .bool true) (w' := w1) (xpick rfl e67 e74 rfl) ⟨_, rfl, rfl, Below.refl _ w1⟩)
          · obtain rfl := Option.some.inj hi
            obtain ⟨u75, h75, g75⟩ := hdep ⟨17, .data⟩ (by simp) rfl _ 75 rfl rfl
            have g75 : u75 = .bool true := g75
            subst g75
            have e75 := eval_of h75
            exact wpOp_of rfl rfl (wp_run (v := .bool true) (w' := w1) (xmove rfl e75) ⟨_, rfl, rfl, Below.refl _ w1⟩)
          · obtain rfl := Option.some.inj hi
            obtain ⟨gu, gh, gg⟩ := hdep ⟨18, .guard⟩ (by simp) rfl _ 76 rfl rfl
            have gg : gu = .bool true := gg
            subst gg
            have e6 : a.eval (.tmp 6) = .slice (some ⟨o, 0, none⟩) k k := eval_of ((hrest 6 (no_dst0 (by kernel_rfl))).trans rfl)
            exact wpOp_yes rfl rfl rfl rfl gh (wp_run (v := .slice (some ⟨o, 0, none⟩) k k) (w' := w1) (xmove rfl e6) ⟨_, rfl, rfl, Below.refl _ w1⟩)
          · obtain rfl := Option.some.inj hi
            obtain ⟨gu, gh, gg⟩ := hdep ⟨18, .guard⟩ (by simp) rfl _ 76 rfl rfl
            have gg : gu = .bool true := gg
            subst gg
            have e5 : a.eval (.tmp 5) = .int .i64 (k : Int) := eval_of ((hrest 5 (no_dst0 (by kernel_rfl))).trans rfl)
            exact wpOp_yes rfl rfl rfl rfl gh (wp_run (v := .int .i64 (k : Int)) (w' := w1) (xmove rfl e5) ⟨_, rfl, rfl, Below.refl _ w1⟩)
          · obtain rfl := Option.some.inj hi
            obtain ⟨gu, gh, gg⟩ := hdep ⟨18, .guard⟩ (by simp) rfl _ 76 rfl rfl
            have gg : gu = .bool true := gg
            subst gg
            obtain ⟨u78, h78, g78⟩ := hdep ⟨20, .data⟩ (by simp) rfl _ 78 rfl rfl
            have g78 : u78 = .int .i64 (k : Int) := g78
            subst g78
            have e78 := eval_of h78
            exact wpOp_yes rfl rfl rfl rfl gh (wp_run (v := .int .i64 (i : Int)) (w' := w1) (xsub rfl e78 rfl hsub1) ⟨_, rfl, rfl, Below.refl _ w1⟩)
          · obtain rfl := Option.some.inj hi
            obtain ⟨gu, gh, gg⟩ := hdep ⟨18, .guard⟩ (by simp) rfl _ 76 rfl rfl
            have gg : gu = .bool true := gg
            subst gg
            obtain ⟨u77, h77, g77⟩ := hdep ⟨19, .data⟩ (by simp) rfl _ 77 rfl rfl
            have g77 : u77 = .slice (some ⟨o, 0, none⟩) k k := g77
            subst g77
            have e77 := eval_of h77
            obtain ⟨u79, h79, g79⟩ := hdep ⟨21, .data⟩ (by simp) rfl _ 79 rfl rfl
            have g79 : u79 = .int .i64 (i : Int) := g79
            subst g79
            have e79 := eval_of h79
            exact wpOp_yes rfl rfl rfl rfl gh (wp_call3 _ _ Try.func12 (by decide) (by intro hh; cases hh) _ _ _ _ _ _ e77 rfl e79 _ rfl (HR1.out w1 hb1) (fun w' hb => ⟨_, rfl, rfl, hb⟩))
          · obtain rfl := Option.some.inj hi
            obtain ⟨u76, h76, g76⟩ := hdep ⟨18, .data⟩ (by simp) rfl _ 76 rfl rfl
            have g76 : u76 = .bool true := g76
            subst g76
            have e76 := eval_of h76
            obtain ⟨u80, h80, g80⟩ := hdep ⟨22, .data⟩ (by simp) rfl _ 80 rfl rfl
            have g80 : u80 = .bool true := g80
            subst g80
            have e80 := eval_of h80
            exact wpOp_of rfl rfl (wp_run (v := .bool true) (w' := w1) (xpick rfl e76 e80 rfl) ⟨_, rfl, rfl, Below.refl _ w1⟩)
          · obtain rfl := Option.some.inj hi
            obtain ⟨u81, h81, g81⟩ := hdep ⟨23, .data⟩ (by simp) rfl _ 81 rfl rfl
            have g81 : u81 = .bool true := g81
            subst g81
            have e81 := eval_of h81
            exact wpOp_of rfl rfl (wp_run (v := .bool true) (w' := w1) (xmove rfl e81) ⟨_, rfl, rfl, Below.refl _ w1⟩)
          · obtain rfl := Option.some.inj hi
            obtain ⟨gu, gh, gg⟩ := hdep ⟨24, .guard⟩ (by simp) rfl _ 82 rfl rfl
            have gg : gu = .bool true := gg
            subst gg
            have e5 : a.eval (.tmp 5) = .int .i64 (k : Int) := eval_of ((hrest 5 (no_dst0 (by kernel_rfl))).trans rfl)
            exact wpOp_yes rfl rfl rfl rfl gh (wp_run (v := .int .i64 (k : Int)) (w' := w1) (xmove rfl e5) ⟨_, rfl, rfl, Below.refl _ w1⟩)
          · obtain rfl := Option.some.inj hi
            obtain ⟨gu, gh, gg⟩ := hdep ⟨24, .guard⟩ (by simp) rfl _ 82 rfl rfl
            have gg : gu = .bool true := gg
            subst gg
            obtain ⟨u83, h83, g83⟩ := hdep ⟨25, .data⟩ (by simp) rfl _ 83 rfl rfl
            have g83 : u83 = .int .i64 (k : Int) := g83
            subst g83
            have e83 := eval_of h83
            exact wpOp_yes rfl rfl rfl rfl gh (wp_run (v := .bool true) (w' := w1) ((xeqi rfl e83 rfl).trans (by rw [ek7])) ⟨_, rfl, rfl, Below.refl _ w1⟩)
          · obtain rfl := Option.some.inj hi
            obtain ⟨gu, gh, gg⟩ := hdep ⟨24, .guard⟩ (by simp) rfl _ 82 rfl rfl
            have gg : gu = .bool true := gg
            subst gg
            obtain ⟨u84, h84, g84⟩ := hdep ⟨26, .data⟩ (by simp) rfl _ 84 rfl rfl
            have g84 : u84 = .bool true := g84
            subst g84
            have e84 := eval_of h84
            exact wpOp_yes rfl rfl rfl rfl gh (wp_run (v := .bool true) (w' := w1) (xmove rfl e84) ⟨_, rfl, rfl, Below.refl _ w1⟩)
          · obtain rfl := Option.some.inj hi
            obtain ⟨gu, gh, gg⟩ := hdep ⟨27, .guard⟩ (by simp) rfl _ 85 rfl rfl
            have gg : gu = .bool true := gg
            subst gg
            exact wpOp_no rfl rfl rfl rfl gh (by decide) ⟨_, rfl, rfl, Below.refl _ w1⟩
          · obtain rfl := Option.some.inj hi
            obtain ⟨gu, gh, gg⟩ := hdep ⟨27, .guard⟩ (by simp) rfl _ 85 rfl rfl
            have gg : gu = .bool true := gg
            subst gg
            exact wpOp_no rfl rfl rfl rfl gh (by decide) ⟨_, rfl, rfl, Below.refl _ w1⟩
          · obtain rfl := Option.some.inj hi
            obtain ⟨gu, gh, gg⟩ := hdep ⟨27, .guard⟩ (by simp) rfl _ 85 rfl rfl
            have gg : gu = .bool true := gg
            subst gg
            exact wpOp_no rfl rfl rfl rfl gh (by decide) ⟨_, rfl, rfl, Below.refl _ w1⟩
          · obtain rfl := Option.some.inj hi
            obtain ⟨gu, gh, gg⟩ := hdep ⟨27, .guard⟩ (by simp) rfl _ 85 rfl rfl
            have gg : gu = .bool true := gg
            subst gg
            exact wpOp_no rfl rfl rfl rfl gh (by decide) ⟨_, rfl, rfl, Below.refl _ w1⟩
          · obtain rfl := Option.some.inj hi
            obtain ⟨gu, gh, gg⟩ := hdep ⟨27, .guard⟩ (by simp) rfl _ 85 rfl rfl
            have gg : gu = .bool true := gg
            subst gg
            exact wpOp_no rfl rfl rfl rfl gh (by decide) ⟨_, rfl, rfl, Below.refl _ w1⟩
          · obtain rfl := Option.some.inj hi
            obtain ⟨gu, gh, gg⟩ := hdep ⟨24, .guard⟩ (by simp) rfl _ 82 rfl rfl
            have gg : gu = .bool true := gg
            subst gg
            obtain ⟨u85, h85, g85⟩ := hdep ⟨27, .data⟩ (by simp) rfl _ 85 rfl rfl
            have g85 : u85 = .bool true := g85
            subst g85
            have e85 := eval_of h85
            obtain ⟨u90, h90, g90⟩ := hdep ⟨32, .data⟩ (by simp) rfl _ 90 rfl rfl
            have g90 : u90 = undef := g90
            subst g90
            have e90 := eval_of h90
            exact wpOp_yes rfl rfl rfl rfl gh (wp_run (v := .bool true) (w' := w1) (xpick rfl e85 rfl e90) ⟨_, rfl, rfl, Below.refl _ w1⟩)
          · obtain rfl := Option.some.inj hi
            obtain ⟨u82, h82, g82⟩ := hdep ⟨24, .data⟩ (by simp) rfl _ 82 rfl rfl
            have g82 : u82 = .bool true := g82
            subst g82
            have e82 := eval_of h82
            obtain ⟨u91, h91, g91⟩ := hdep ⟨33, .data⟩ (by simp) rfl _ 91 rfl rfl
            have g91 : u91 = .bool true := g91
            subst g91
            have e91 := eval_of h91
            exact wpOp_of rfl rfl (wp_run (v := .bool true) (w' := w1) (xpick rfl e82 e91 rfl) ⟨_, rfl, rfl, Below.refl _ w1⟩)
          · obtain rfl := Option.some.inj hi
            obtain ⟨u92, h92, g92⟩ := hdep ⟨34, .data⟩ (by simp) rfl _ 92 rfl rfl
            have g92 : u92 = .bool true := g92
            subst g92
            have e92 := eval_of h92
            exact wpOp_of rfl rfl (wp_run (v := .bool true) (w' := w1) (xmove rfl e92) ⟨_, rfl, rfl, Below.refl _ w1⟩)
          · obtain rfl := Option.some.inj hi
            obtain ⟨gu, gh, gg⟩ := hdep ⟨35, .guard⟩ (by simp) rfl _ 93 rfl rfl
            have gg : gu = .bool true := gg
            subst gg
            have e10 : a.eval (.tmp 10) = .slice (some ⟨g9, 0, none⟩) k cap9 := eval_of ((hrest 10 (no_dst0 (by kernel_rfl))).trans rfl)
            exact wpOp_yes rfl rfl rfl rfl gh (wp_run (v := .slice (some ⟨g9, 0, none⟩) k cap9) (w' := w1) (xmove rfl e10) ⟨_, rfl, rfl, Below.refl _ w1⟩)
          · obtain rfl := Option.some.inj hi
            obtain ⟨gu, gh, gg⟩ := hdep ⟨35, .guard⟩ (by simp) rfl _ 93 rfl rfl
            have gg : gu = .bool true := gg
            subst gg
            have e5 : a.eval (.tmp 5) = .int .i64 (k : Int) := eval_of ((hrest 5 (no_dst0 (by kernel_rfl))).trans rfl)
            exact wpOp_yes rfl rfl rfl rfl gh (wp_run (v := .int .i64 (k : Int)) (w' := w1) (xmove rfl e5) ⟨_, rfl, rfl, Below.refl _ w1⟩)
          · obtain rfl := Option.some.inj hi
            obtain ⟨gu, gh, gg⟩ := hdep ⟨35, .guard⟩ (by simp) rfl _ 93 rfl rfl
            have gg : gu = .bool true := gg
            subst gg
            obtain ⟨u95, h95, g95⟩ := hdep ⟨37, .data⟩ (by simp) rfl _ 95 rfl rfl
            have g95 : u95 = .int .i64 (k : Int) := g95
            subst g95
            have e95 := eval_of h95
            exact wpOp_yes rfl rfl rfl rfl gh (wp_run (v := .int .i64 (i : Int)) (w' := w1) (xsub rfl e95 rfl hsub1) ⟨_, rfl, rfl, Below.refl _ w1⟩)
          · obtain rfl := Option.some.inj hi
            obtain ⟨gu, gh, gg⟩ := hdep ⟨35, .guard⟩ (by simp) rfl _ 93 rfl rfl
            have gg : gu = .bool true := gg
            subst gg
            have e8 : a.eval (.tmp 8) = .int .i64 (b : Int) := eval_of ((hrest 8 (no_dst0 (by kernel_rfl))).trans rfl)
            exact wpOp_yes rfl rfl rfl rfl gh (wp_run (v := .int .i64 (b : Int)) (w' := w1) (xmove rfl e8) ⟨_, rfl, rfl, Below.refl _ w1⟩)
          · obtain rfl := Option.some.inj hi
            obtain ⟨gu, gh, gg⟩ := hdep ⟨35, .guard⟩ (by simp) rfl _ 93 rfl rfl
            have gg : gu = .bool true := gg
            subst gg
            obtain ⟨u94, h94, g94⟩ := hdep ⟨36, .data⟩ (by simp) rfl _ 94 rfl rfl
            have g94 : u94 = .slice (some ⟨g9, 0, none⟩) k cap9 := g94
            subst g94
            have e94 := eval_of h94
            obtain ⟨u96, h96, g96⟩ := hdep ⟨38, .data⟩ (by simp) rfl _ 96 rfl rfl
            have g96 : u96 = .int .i64 (i : Int) := g96
            subst g96
            have e96 := eval_of h96
            obtain ⟨u97, h97, g97⟩ := hdep ⟨39, .data⟩ (by simp) rfl _ 97 rfl rfl
            have g97 : u97 = .int .i64 (b : Int) := g97
            subst g97
            have e97 := eval_of h97
            exact wpOp_yes rfl rfl rfl rfl gh (wp_call3 _ _ Try.func12 (by decide) (by intro hh; cases hh) _ _ _ _ _ _ e94 e96 e97 _ rfl (HR3.out w1 hb1) (fun w' hb => ⟨_, rfl, rfl, hb⟩))
          · obtain rfl := Option.some.inj hi
            obtain ⟨u93, h93, g93⟩ := hdep ⟨35, .data⟩ (by simp) rfl _ 93 rfl rfl
            have g93 : u93 = .bool true := g93
            subst g93
            have e93 := eval_of h93
            obtain ⟨u98, h98, g98⟩ := hdep ⟨40, .data⟩ (by simp) rfl _ 98 rfl rfl
            have g98 : u98 = .bool true := g98
            subst g98
            have e98 := eval_of h98
            exact wpOp_of rfl rfl (wp_run (v := .bool true) (w' := w1) (xpick rfl e93 e98 rfl) ⟨_, rfl, rfl, Below.refl _ w1⟩)
          · obtain rfl := Option.some.inj hi
            obtain ⟨u99, h99, g99⟩ := hdep ⟨41, .data⟩ (by simp) rfl _ 99 rfl rfl
            have g99 : u99 = .bool true := g99
            subst g99
            have e99 := eval_of h99
            exact wpOp_of rfl rfl (wp_run (v := .bool true) (w' := w1) (xmove rfl e99) ⟨_, rfl, rfl, Below.refl _ w1⟩)
          · obtain rfl := Option.some.inj hi
            obtain ⟨gu, gh, gg⟩ := hdep ⟨42, .guard⟩ (by simp) rfl _ 100 rfl rfl
            have gg : gu = .bool true := gg
            subst gg
            exact wpOp_yes rfl rfl rfl rfl gh (wp_call0 _ _ Try.func14 (by decide) (by intro hh; cases hh) _ rfl (HAW.out w1 hb1) (fun w' hb => ⟨_, rfl, rfl, hb⟩))
          · obtain rfl := Option.some.inj hi
            obtain ⟨u100, h100, g100⟩ := hdep ⟨42, .data⟩ (by simp) rfl _ 100 rfl rfl
            have g100 : u100 = .bool true := g100
            subst g100
            have e100 := eval_of h100
            obtain ⟨u101, h101, g101⟩ := hdep ⟨43, .data⟩ (by simp) rfl _ 101 rfl rfl
            have g101 : u101 = .bool true := g101
            subst g101
            have e101 := eval_of h101
            exact wpOp_of rfl rfl (wp_run (v := .bool true) (w' := w1) (xpick rfl e100 e101 rfl) ⟨_, rfl, rfl, Below.refl _ w1⟩)
          · obtain rfl := Option.some.inj hi
            obtain ⟨u102, h102, g102⟩ := hdep ⟨44, .data⟩ (by simp) rfl _ 102 rfl rfl
            have g102 : u102 = .bool true := g102
            subst g102
            have e102 := eval_of h102
            exact wpOp_of rfl rfl (wp_run (v := .bool true) (w' := w1) (xassign rfl e102) ⟨_, rfl, rfl, Below.refl _ w1⟩)
        · intro listed a w2' h hr
          have hl := all_listed (by kernel_rfl) h.lsize hr
          obtain ⟨v', h4, hv⟩ := h.done 45 _ 4 rfl rfl (hl 45 (by decide))
          have hv : v' = .bool true := hv
          subst hv
          have hb := h.below
          have hdf : a.defers = [] := h.defers
          clear hl hr h
          refine hK9 _ _ (wp_ret ?_)
          show bodyPost Try.prog Try.f7 (fun e w' => e = .returned (.bool true) ∧ Below w.heap.size w w') Exit.ret a w2'
          exact bodyPost_ret (v := .bool true) (res_chain h4) hdf ⟨rfl, HBF.out _ hb⟩
      · have ek7 : ((k : Int) == (1 : Int)) = false := by simp; omega
        have HR2 : Hid (∀ W, Below w6.heap.size w6 W → Calls Try.prog 12 #[.slice (some ⟨o, 0, none⟩) k k, .int .i64 (i : Int), .int .i64 0] W fun e w' => e = .returned (.bool false) ∧ Below W.heap.size W w') := fun W hW => by
          have h9 := reach_any (some ⟨o, 0, none⟩) k k rows (i : Int) 0 W (hGr.below hW (Nat.le_refl _)) hW.size (by omega)
          have hd : rchB rows (i : Int) 0 = false := by
            rw [← Bool.not_eq_true]
            intro h
            have := (chain_rch HCH.out hikl hk0).1 ((rchB_nat (a := i) (b := 0) (by omega) (by omega)).1 h)
            omega
          rw [hd] at h9
          exact h9
        clear hk1
        refine wp_region_typed (V := fun zq v _ => v = ([.slice (some ⟨mb, mo, none⟩) (b + 1) cm, .int .i64 (b : Int), .pointer (some ⟨mb, mo + b, none⟩), .slice ai kb9 ci, .int .i64 (kb9 : Int), .int .i64 (k : Int), .int .i64 (b : Int), .int .i64 (kb9 : Int), .bool true, .bool true, .slice (some ⟨lb, lo, none⟩) k cl, .int .i64 (b : Int), .slice (some ⟨lb, lo, none⟩) b cl, .slice (some ⟨mb, mo, none⟩) (b + 1) cm, .int .i64 (b : Int), .slice (some ⟨mb, mo, none⟩) b cm, .bool true, .bool true, .bool true, .slice (some ⟨o, 0, none⟩) k k, .int .i64 (k : Int), .int .i64 (i : Int), .bool true, .bool true, .bool true, .int .i64 (k : Int), .bool false, .bool false, .slice (some ⟨o, 0, none⟩) k k, .int .i64 (k : Int), .int .i64 (i : Int), .bool false, .bool true, .bool true, .bool true, .bool true, .slice (some ⟨g9, 0, none⟩) k cap9, .int .i64 (k : Int), .int .i64 (i : Int), .int .i64 (b : Int), .bool true, .bool true, .bool true, .bool true, .bool true, .bool true] : List Value).getD zq undef) (by rfl) (fun z v w w' h hb => h) (by kernel_rfl) (dst_in (by kernel_rfl)) ?_ ?_
        · intro z0 o0 a w1 hi hb1 hrest hdep
          have hlt : z0 < 46 := (Array.getElem?_eq_some_iff.1 hi).1
          have ez : z0 = 0 ∨ z0 = 1 ∨ z0 = 2 ∨ z0 = 3 ∨ z0 = 4 ∨ z0 = 5 ∨ z0 = 6 ∨ z0 = 7 ∨ z0 = 8 ∨ z0 = 9 ∨ z0 = 10 ∨ z0 = 11 ∨ z0 = 12 ∨ z0 = 13 ∨ z0 = 14 ∨ z0 = 15 ∨ z0 = 16 ∨ z0 = 17 ∨ z0 = 18 ∨ z0 = 19 ∨ z0 = 20 ∨ z0 = 21 ∨ z0 = 22 ∨ z0 = 23 ∨ z0 = 24 ∨ z0 = 25 ∨ z0 = 26 ∨ z0 = 27 ∨ z0 = 28 ∨ z0 = 29 ∨ z0 = 30 ∨ z0 = 31 ∨ z0 = 32 ∨ z0 = 33 ∨ z0 = 34 ∨ z0 = 35 ∨ z0 = 36 ∨ z0 = 37 ∨ z0 = 38 ∨ z0 = 39 ∨ z0 = 40 ∨ z0 = 41 ∨ z0 = 42 ∨ z0 = 43 ∨ z0 = 44 ∨ z0 = 45 := by omega
          rcases ez with rfl | rfl | rfl | rfl | rfl | rfl | rfl | rfl | rfl | rfl | rfl | rfl | rfl | rfl | rfl | rfl | rfl | rfl | rfl | rfl | rfl | rfl | rfl | rfl | rfl | rfl | rfl | rfl | rfl | rfl | rfl | rfl | rfl | rfl | rfl | rfl | rfl | rfl | rfl | rfl | rfl | rfl | rfl | rfl | rfl | rfl
          · obtain rfl := Option.some.inj hi
            have e11 : a.eval (.tmp 11) = .slice (some ⟨mb, mo, none⟩) (b + 1) cm := eval_of ((hrest 11 (no_dst0 (by kernel_rfl))).trans rfl)
            exact wpOp_of rfl rfl (wp_run (v := .slice (some ⟨mb, mo, none⟩) (b + 1) cm) (w' := w1) (xmove rfl e11) ⟨_, rfl, rfl, Below.refl _ w1⟩)
          · obtain rfl := Option.some.inj hi
            have e8 : a.eval (.tmp 8) = .int .i64 (b : Int) := eval_of ((hrest 8 (no_dst0 (by kernel_rfl))).trans rfl)
            exact wpOp_of rfl rfl (wp_run (v := .int .i64 (b : Int)) (w' := w1) (xmove rfl e8) ⟨_, rfl, rfl, Below.refl _ w1⟩)
          · obtain rfl := Option.some.inj hi
            obtain ⟨u58, h58, g58⟩ := hdep ⟨0, .data⟩ (by simp) rfl _ 58 rfl rfl
            have g58 : u58 = .slice (some ⟨mb, mo, none⟩) (b + 1) cm := g58
            subst g58
            have e58 := eval_of h58
            obtain ⟨u59, h59, g59⟩ := hdep ⟨1, .data⟩ (by simp) rfl _ 59 rfl rfl
            have g59 : u59 = .int .i64 (b : Int) := g59
            subst g59
            have e59 := eval_of h59
            exact wpOp_of rfl rfl (wp_run (v := .pointer (some ⟨mb, mo + b, none⟩)) (w' := w1) (xindex2 rfl e58 e59 (by omega)) ⟨_, rfl, rfl, Below.refl _ w1⟩)
          · obtain rfl := Option.some.inj hi
            obtain ⟨u60, h60, g60⟩ := hdep ⟨2, .data⟩ (by simp) rfl _ 60 rfl rfl
            have g60 : u60 = .pointer (some ⟨mb, mo + b, none⟩) := g60
            subst g60
            have e60 := eval_of h60
            exact wpOp_of rfl rfl (wp_run (v := .slice ai kb9 ci) (w' := w1) (xload2 rfl e60 ((hb1.cell (p := ⟨mb, mo + b, none⟩) hmb).trans hcm)) ⟨_, rfl, rfl, Below.refl _ w1⟩)
          · obtain rfl := Option.some.inj hi
            obtain ⟨u61, h61, g61⟩ := hdep ⟨3, .data⟩ (by simp) rfl _ 61 rfl rfl
            have g61 : u61 = .slice ai kb9 ci := g61
            subst g61
            have e61 := eval_of h61
            exact wpOp_of rfl rfl (wp_run (v := .int .i64 (kb9 : Int)) (w' := w1) (xlen1 rfl e61) ⟨_, rfl, rfl, Below.refl _ w1⟩)
          · obtain rfl := Option.some.inj hi
            have e5 : a.eval (.tmp 5) = .int .i64 (k : Int) := eval_of ((hrest 5 (no_dst0 (by kernel_rfl))).trans rfl)
            exact wpOp_of rfl rfl (wp_run (v := .int .i64 (k : Int)) (w' := w1) (xmove rfl e5) ⟨_, rfl, rfl, Below.refl _ w1⟩)
          · obtain rfl := Option.some.inj hi
            have e8 : a.eval (.tmp 8) = .int .i64 (b : Int) := eval_of ((hrest 8 (no_dst0 (by kernel_rfl))).trans rfl)
            exact wpOp_of rfl rfl (wp_run (v := .int .i64 (b : Int)) (w' := w1) (xmove rfl e8) ⟨_, rfl, rfl, Below.refl _ w1⟩)
          · obtain rfl := Option.some.inj hi
            obtain ⟨u63, h63, g63⟩ := hdep ⟨5, .data⟩ (by simp) rfl _ 63 rfl rfl
            have g63 : u63 = .int .i64 (k : Int) := g63
            subst g63
            have e63 := eval_of h63
            obtain ⟨u64, h64, g64⟩ := hdep ⟨6, .data⟩ (by simp) rfl _ 64 rfl rfl
            have g64 : u64 = .int .i64 (b : Int) := g64
            subst g64
            have e64 := eval_of h64
            exact wpOp_of rfl rfl (wp_run (v := .int .i64 (kb9 : Int)) (w' := w1) (xsub rfl e63 e64 hsub) ⟨_, rfl, rfl, Below.refl _ w1⟩)
          · obtain rfl := Option.some.inj hi
            obtain ⟨u62, h62, g62⟩ := hdep ⟨4, .data⟩ (by simp) rfl _ 62 rfl rfl
            have g62 : u62 = .int .i64 (kb9 : Int) := g62
            subst g62
            have e62 := eval_of h62
            obtain ⟨u65, h65, g65⟩ := hdep ⟨7, .data⟩ (by simp) rfl _ 65 rfl rfl
            have g65 : u65 = .int .i64 (kb9 : Int) := g65
            subst g65
            have e65 := eval_of h65
            exact wpOp_of rfl rfl (wp_run (v := .bool true) (w' := w1) ((xeqi rfl e62 e65).trans (by rw [beq_self_eq_true])) ⟨_, rfl, rfl, Below.refl _ w1⟩)
          · obtain rfl := Option.some.inj hi
            obtain ⟨u66, h66, g66⟩ := hdep ⟨8, .data⟩ (by simp) rfl _ 66 rfl rfl
            have g66 : u66 = .bool true := g66
            subst g66
            have e66 := eval_of h66
            exact wpOp_of rfl rfl (wp_run (v := .bool true) (w' := w1) (xmove rfl e66) ⟨_, rfl, rfl, Below.refl _ w1⟩)
          · obtain rfl := Option.some.inj hi
            obtain ⟨gu, gh, gg⟩ := hdep ⟨9, .guard⟩ (by simp) rfl _ 67 rfl rfl
            have gg : gu = .bool true := gg
            subst gg
            have e9 : a.eval (.tmp 9) = .slice (some ⟨lb, lo, none⟩) k cl := eval_of ((hrest 9 (no_dst0 (by kernel_rfl))).trans rfl)
            exact wpOp_yes rfl rfl rfl rfl gh (wp_run (v := .slice (some ⟨lb, lo, none⟩) k cl) (w' := w1) (xmove rfl e9) ⟨_, rfl, rfl, Below.refl _ w1⟩)
          · obtain rfl := Option.some.inj hi
            obtain ⟨gu, gh, gg⟩ := hdep ⟨9, .guard⟩ (by simp) rfl _ 67 rfl rfl
            have gg : gu = .bool true := gg
            subst gg
            have e8 : a.eval (.tmp 8) = .int .i64 (b : Int) := eval_of ((hrest 8 (no_dst0 (by kernel_rfl))).trans rfl)
            exact wpOp_yes rfl rfl rfl rfl gh (wp_run (v := .int .i64 (b : Int)) (w' := w1) (xmove rfl e8) ⟨_, rfl, rfl, Below.refl _ w1⟩)
          · obtain rfl := Option.some.inj hi
            obtain ⟨gu, gh, gg⟩ := hdep ⟨9, .guard⟩ (by simp) rfl _ 67 rfl rfl
            have gg : gu = .bool true := gg
            subst gg
            obtain ⟨u68, h68, g68⟩ := hdep ⟨10, .data⟩ (by simp) rfl _ 68 rfl rfl
            have g68 : u68 = .slice (some ⟨lb, lo, none⟩) k cl := g68
            subst g68
            have e68 := eval_of h68
            obtain ⟨u69, h69, g69⟩ := hdep ⟨11, .data⟩ (by simp) rfl _ 69 rfl rfl
            have g69 : u69 = .int .i64 (b : Int) := g69
            subst g69
            have e69 := eval_of h69
            exact wpOp_yes rfl rfl rfl rfl gh (wp_run (v := .slice (some ⟨lb, lo, none⟩) b cl) (w' := w1) (xslice rfl e68 e69 hbl) ⟨_, rfl, rfl, Below.refl _ w1⟩)
          · obtain rfl := Option.some.inj hi
            obtain ⟨gu, gh, gg⟩ := hdep ⟨9, .guard⟩ (by simp) rfl _ 67 rfl rfl
            have gg : gu = .bool true := gg
            subst gg
            have e11 : a.eval (.tmp 11) = .slice (some ⟨mb, mo, none⟩) (b + 1) cm := eval_of ((hrest 11 (no_dst0 (by kernel_rfl))).trans rfl)
            exact wpOp_yes rfl rfl rfl rfl gh (wp_run (v := .slice (some ⟨mb, mo, none⟩) (b + 1) cm) (w' := w1) (xmove rfl e11) ⟨_, rfl, rfl, Below.refl _ w1⟩)
          · obtain rfl := Option.some.inj hi
            obtain ⟨gu, gh, gg⟩ := hdep ⟨9, .guard⟩ (by simp) rfl _ 67 rfl rfl
            have gg : gu = .bool true := gg
            subst gg
            have e8 : a.eval (.tmp 8) = .int .i64 (b : Int) := eval_of ((hrest 8 (no_dst0 (by kernel_rfl))).trans rfl)
            exact wpOp_yes rfl rfl rfl rfl gh (wp_run (v := .int .i64 (b : Int)) (w' := w1) (xmove rfl e8) ⟨_, rfl, rfl, Below.refl _ w1⟩)
          · obtain rfl := Option.some.inj hi
            obtain ⟨gu, gh, gg⟩ := hdep ⟨9, .guard⟩ (by simp) rfl _ 67 rfl rfl
            have gg : gu = .bool true := gg
            subst gg
            obtain ⟨u71, h71, g71⟩ := hdep ⟨13, .data⟩ (by simp) rfl _ 71 rfl rfl
            have g71 : u71 = .slice (some ⟨mb, mo, none⟩) (b + 1) cm := g71
            subst g71
            have e71 := eval_of h71
            obtain ⟨u72, h72, g72⟩ := hdep ⟨14, .data⟩ (by simp) rfl _ 72 rfl rfl
            have g72 : u72 = .int .i64 (b : Int) := g72
            subst g72
            have e72 := eval_of h72
            exact wpOp_yes rfl rfl rfl rfl gh (wp_run (v := .slice (some ⟨mb, mo, none⟩) b cm) (w' := w1) (xslice rfl e71 e72 hbm) ⟨_, rfl, rfl, Below.refl _ w1⟩)
          · obtain rfl := Option.some.inj hi
            obtain ⟨gu, gh, gg⟩ := hdep ⟨9, .guard⟩ (by simp) rfl _ 67 rfl rfl
            have gg : gu = .bool true := gg
            subst gg
            obtain ⟨u70, h70, g70⟩ := hdep ⟨12, .data⟩ (by simp) rfl _ 70 rfl rfl
            have g70 : u70 = .slice (some ⟨lb, lo, none⟩) b cl := g70
            subst g70
            have e70 := eval_of h70
            obtain ⟨u73, h73, g73⟩ := hdep ⟨15, .data⟩ (by simp) rfl _ 73 rfl rfl
            have g73 : u73 = .slice (some ⟨mb, mo, none⟩) b cm := g73
            subst g73
            have e73 := eval_of h73
            exact wpOp_yes rfl rfl rfl rfl gh (wp_call2 _ _ Try.func9 (by decide) (by intro hh; cases hh) _ _ _ _ e70 e73 _ rfl (HSM.out w1 hb1) (fun w' hb => ⟨_, rfl, rfl, hb⟩))
          · obtain rfl := Option.some.inj hi
            obtain ⟨u67, h67, g67⟩ := hdep ⟨9, .data⟩ (by simp) rfl _ 67 rfl rfl
            have g67 : u67 = .bool true := g67
            subst g67
            have e67 := eval_of h67
            obtain ⟨u74, h74, g74⟩ := hdep ⟨16, .data⟩ (by simp) rfl _ 74 rfl rfl
            have g74 : u74 = .bool true := g74
            subst g74
            have e74 := eval_of h74
            exact wpOp_of rfl rfl (wp_run (v := .bool true) (w' := w1) (xpick rfl e67 e74 rfl) ⟨_, rfl, rfl, Below.refl _ w1⟩)
          · obtain rfl := Option.some.inj hi
            obtain ⟨u75, h75, g75⟩ := hdep ⟨17, .data⟩ (by simp) rfl _ 75 rfl rfl
            have g75 : u75 = .bool true := g75
            subst g75
            have e75 := eval_of h75
            exact wpOp_of rfl rfl (wp_run (v := .bool true) (w' := w1) (xmove rfl e75) ⟨_, rfl, rfl, Below.refl _ w1⟩)
          · obtain rfl := Option.some.inj hi
            obtain ⟨gu, gh, gg⟩ := hdep ⟨18, .guard⟩ (by simp) rfl _ 76 rfl rfl
            have gg : gu = .bool true := gg
            subst gg
            have e6 : a.eval (.tmp 6) = .slice (some ⟨o, 0, none⟩) k k := eval_of ((hrest 6 (no_dst0 (by kernel_rfl))).trans rfl)
            exact wpOp_yes rfl rfl rfl rfl gh (wp_run (v := .slice (some ⟨o, 0, none⟩) k k) (w' := w1) (xmove rfl e6) ⟨_, rfl, rfl, Below.refl _ w1⟩)
          · obtain rfl := Option.some.inj hi
            obtain ⟨gu, gh, gg⟩ := hdep ⟨18, .guard⟩ (by simp) rfl _ 76 rfl rfl
            have gg : gu = .bool true := gg
            subst gg
            have e5 : a.eval (.tmp 5) = .int .i64 (k : Int) := eval_of ((hrest 5 (no_dst0 (by kernel_rfl))).trans rfl)
            exact wpOp_yes rfl rfl rfl rfl gh (wp_run (v := .int .i64 (k : Int)) (w' := w1) (xmove rfl e5) ⟨_, rfl, rfl, Below.refl _ w1⟩)
          · obtain rfl := Option.some.inj hi
            obtain ⟨gu, gh, gg⟩ := hdep ⟨18, .guard⟩ (by simp) rfl _ 76 rfl rfl
            have gg : gu = .bool true := gg
            subst gg
            obtain ⟨u78, h78, g78⟩ := hdep ⟨20, .data⟩ (by simp) rfl _ 78 rfl rfl
            have g78 : u78 = .int .i64 (k : Int) := g78
            subst g78
            have e78 := eval_of h78
            exact wpOp_yes rfl rfl rfl rfl gh (wp_run (v := .int .i64 (i : Int)) (w' := w1) (xsub rfl e78 rfl hsub1) ⟨_, rfl, rfl, Below.refl _ w1⟩)
          · obtain rfl := Option.some.inj hi
            obtain ⟨gu, gh, gg⟩ := hdep ⟨18, .guard⟩ (by simp) rfl _ 76 rfl rfl
            have gg : gu = .bool true := gg
            subst gg
            obtain ⟨u77, h77, g77⟩ := hdep ⟨19, .data⟩ (by simp) rfl _ 77 rfl rfl
            have g77 : u77 = .slice (some ⟨o, 0, none⟩) k k := g77
            subst g77
            have e77 := eval_of h77
            obtain ⟨u79, h79, g79⟩ := hdep ⟨21, .data⟩ (by simp) rfl _ 79 rfl rfl
            have g79 : u79 = .int .i64 (i : Int) := g79
            subst g79
            have e79 := eval_of h79
            exact wpOp_yes rfl rfl rfl rfl gh (wp_call3 _ _ Try.func12 (by decide) (by intro hh; cases hh) _ _ _ _ _ _ e77 rfl e79 _ rfl (HR1.out w1 hb1) (fun w' hb => ⟨_, rfl, rfl, hb⟩))
          · obtain rfl := Option.some.inj hi
            obtain ⟨u76, h76, g76⟩ := hdep ⟨18, .data⟩ (by simp) rfl _ 76 rfl rfl
            have g76 : u76 = .bool true := g76
            subst g76
            have e76 := eval_of h76
            obtain ⟨u80, h80, g80⟩ := hdep ⟨22, .data⟩ (by simp) rfl _ 80 rfl rfl
            have g80 : u80 = .bool true := g80
            subst g80
            have e80 := eval_of h80
            exact wpOp_of rfl rfl (wp_run (v := .bool true) (w' := w1) (xpick rfl e76 e80 rfl) ⟨_, rfl, rfl, Below.refl _ w1⟩)
          · obtain rfl := Option.some.inj hi
            obtain ⟨u81, h81, g81⟩ := hdep ⟨23, .data⟩ (by simp) rfl _ 81 rfl rfl
            have g81 : u81 = .bool true := g81
            subst g81
            have e81 := eval_of h81
            exact wpOp_of rfl rfl (wp_run (v := .bool true) (w' := w1) (xmove rfl e81) ⟨_, rfl, rfl, Below.refl _ w1⟩)
          · obtain rfl := Option.some.inj hi
            obtain ⟨gu, gh, gg⟩ := hdep ⟨24, .guard⟩ (by simp) rfl _ 82 rfl rfl
            have gg : gu = .bool true := gg
            subst gg
            have e5 : a.eval (.tmp 5) = .int .i64 (k : Int) := eval_of ((hrest 5 (no_dst0 (by kernel_rfl))).trans rfl)
            exact wpOp_yes rfl rfl rfl rfl gh (wp_run (v := .int .i64 (k : Int)) (w' := w1) (xmove rfl e5) ⟨_, rfl, rfl, Below.refl _ w1⟩)
          · obtain rfl := Option.some.inj hi
            obtain ⟨gu, gh, gg⟩ := hdep ⟨24, .guard⟩ (by simp) rfl _ 82 rfl rfl
            have gg : gu = .bool true := gg
            subst gg
            obtain ⟨u83, h83, g83⟩ := hdep ⟨25, .data⟩ (by simp) rfl _ 83 rfl rfl
            have g83 : u83 = .int .i64 (k : Int) := g83
            subst g83
            have e83 := eval_of h83
            exact wpOp_yes rfl rfl rfl rfl gh (wp_run (v := .bool false) (w' := w1) ((xeqi rfl e83 rfl).trans (by rw [ek7])) ⟨_, rfl, rfl, Below.refl _ w1⟩)
          · obtain rfl := Option.some.inj hi
            obtain ⟨gu, gh, gg⟩ := hdep ⟨24, .guard⟩ (by simp) rfl _ 82 rfl rfl
            have gg : gu = .bool true := gg
            subst gg
            obtain ⟨u84, h84, g84⟩ := hdep ⟨26, .data⟩ (by simp) rfl _ 84 rfl rfl
            have g84 : u84 = .bool false := g84
            subst g84
            have e84 := eval_of h84
            exact wpOp_yes rfl rfl rfl rfl gh (wp_run (v := .bool false) (w' := w1) (xmove rfl e84) ⟨_, rfl, rfl, Below.refl _ w1⟩)
          · obtain rfl := Option.some.inj hi
            obtain ⟨gu, gh, gg⟩ := hdep ⟨27, .guard⟩ (by simp) rfl _ 85 rfl rfl
            have gg : gu = .bool false := gg
            subst gg
            have e6 : a.eval (.tmp 6) = .slice (some ⟨o, 0, none⟩) k k := eval_of ((hrest 6 (no_dst0 (by kernel_rfl))).trans rfl)
            exact wpOp_yes rfl rfl rfl rfl gh (wp_run (v := .slice (some ⟨o, 0, none⟩) k k) (w' := w1) (xmove rfl e6) ⟨_, rfl, rfl, Below.refl _ w1⟩)
          · obtain rfl := Option.some.inj hi
            obtain ⟨gu, gh, gg⟩ := hdep ⟨27, .guard⟩ (by simp) rfl _ 85 rfl rfl
            have gg : gu = .bool false := gg
            subst gg
            have e5 : a.eval (.tmp 5) = .int .i64 (k : Int) := eval_of ((hrest 5 (no_dst0 (by kernel_rfl))).trans rfl)
            exact wpOp_yes rfl rfl rfl rfl gh (wp_run (v := .int .i64 (k : Int)) (w' := w1) (xmove rfl e5) ⟨_, rfl, rfl, Below.refl _ w1⟩)
          · obtain rfl := Option.some.inj hi
            obtain ⟨gu, gh, gg⟩ := hdep ⟨27, .guard⟩ (by simp) rfl _ 85 rfl rfl
            have gg : gu = .bool false := gg
            subst gg
            obtain ⟨u87, h87, g87⟩ := hdep ⟨29, .data⟩ (by simp) rfl _ 87 rfl rfl
            have g87 : u87 = .int .i64 (k : Int) := g87
            subst g87
            have e87 := eval_of h87
            exact wpOp_yes rfl rfl rfl rfl gh (wp_run (v := .int .i64 (i : Int)) (w' := w1) (xsub rfl e87 rfl hsub1) ⟨_, rfl, rfl, Below.refl _ w1⟩)
          · obtain rfl := Option.some.inj hi
            obtain ⟨gu, gh, gg⟩ := hdep ⟨27, .guard⟩ (by simp) rfl _ 85 rfl rfl
            have gg : gu = .bool false := gg
            subst gg
            obtain ⟨u86, h86, g86⟩ := hdep ⟨28, .data⟩ (by simp) rfl _ 86 rfl rfl
            have g86 : u86 = .slice (some ⟨o, 0, none⟩) k k := g86
            subst g86
            have e86 := eval_of h86
            obtain ⟨u88, h88, g88⟩ := hdep ⟨30, .data⟩ (by simp) rfl _ 88 rfl rfl
            have g88 : u88 = .int .i64 (i : Int) := g88
            subst g88
            have e88 := eval_of h88
            exact wpOp_yes rfl rfl rfl rfl gh (wp_call3 _ _ Try.func12 (by decide) (by intro hh; cases hh) _ _ _ _ _ _ e86 e88 rfl _ rfl (HR2.out w1 hb1) (fun w' hb => ⟨_, rfl, rfl, hb⟩))
          · obtain rfl := Option.some.inj hi
            obtain ⟨gu, gh, gg⟩ := hdep ⟨27, .guard⟩ (by simp) rfl _ 85 rfl rfl
            have gg : gu = .bool false := gg
            subst gg
            obtain ⟨u89, h89, g89⟩ := hdep ⟨31, .data⟩ (by simp) rfl _ 89 rfl rfl
            have g89 : u89 = .bool false := g89
            subst g89
            have e89 := eval_of h89
            exact wpOp_yes rfl rfl rfl rfl gh (wp_run (v := .bool true) (w' := w1) (xnot rfl e89) ⟨_, rfl, rfl, Below.refl _ w1⟩)
          · obtain rfl := Option.some.inj hi
            obtain ⟨gu, gh, gg⟩ := hdep ⟨24, .guard⟩ (by simp) rfl _ 82 rfl rfl
            have gg : gu = .bool true := gg
            subst gg
            obtain ⟨u85, h85, g85⟩ := hdep ⟨27, .data⟩ (by simp) rfl _ 85 rfl rfl
            have g85 : u85 = .bool false := g85
            subst g85
            have e85 := eval_of h85
            obtain ⟨u90, h90, g90⟩ := hdep ⟨32, .data⟩ (by simp) rfl _ 90 rfl rfl
            have g90 : u90 = .bool true := g90
            subst g90
            have e90 := eval_of h90
            exact wpOp_yes rfl rfl rfl rfl gh (wp_run (v := .bool true) (w' := w1) (xpick rfl e85 rfl e90) ⟨_, rfl, rfl, Below.refl _ w1⟩)
          · obtain rfl := Option.some.inj hi
            obtain ⟨u82, h82, g82⟩ := hdep ⟨24, .data⟩ (by simp) rfl _ 82 rfl rfl
            have g82 : u82 = .bool true := g82
            subst g82
            have e82 := eval_of h82
            obtain ⟨u91, h91, g91⟩ := hdep ⟨33, .data⟩ (by simp) rfl _ 91 rfl rfl
            have g91 : u91 = .bool true := g91
            subst g91
            have e91 := eval_of h91
            exact wpOp_of rfl rfl (wp_run (v := .bool true) (w' := w1) (xpick rfl e82 e91 rfl) ⟨_, rfl, rfl, Below.refl _ w1⟩)
          · obtain rfl := Option.some.inj hi
            obtain ⟨u92, h92, g92⟩ := hdep ⟨34, .data⟩ (by simp) rfl _ 92 rfl rfl
            have g92 : u92 = .bool true := g92
            subst g92
            have e92 := eval_of h92
            exact wpOp_of rfl rfl (wp_run (v := .bool true) (w' := w1) (xmove rfl e92) ⟨_, rfl, rfl, Below.refl _ w1⟩)
          · obtain rfl := Option.some.inj hi
            obtain ⟨gu, gh, gg⟩ := hdep ⟨35, .guard⟩ (by simp) rfl _ 93 rfl rfl
            have gg : gu = .bool true := gg
            subst gg
            have e10 : a.eval (.tmp 10) = .slice (some ⟨g9, 0, none⟩) k cap9 := eval_of ((hrest 10 (no_dst0 (by kernel_rfl))).trans rfl)
            exact wpOp_yes rfl rfl rfl rfl gh (wp_run (v := .slice (some ⟨g9, 0, none⟩) k cap9) (w' := w1) (xmove rfl e10) ⟨_, rfl, rfl, Below.refl _ w1⟩)
          · obtain rfl := Option.some.inj hi
            obtain ⟨gu, gh, gg⟩ := hdep ⟨35, .guard⟩ (by simp) rfl _ 93 rfl rfl
            have gg : gu = .bool true := gg
            subst gg
            have e5 : a.eval (.tmp 5) = .int .i64 (k : Int) := eval_of ((hrest 5 (no_dst0 (by kernel_rfl))).trans rfl)
            exact wpOp_yes rfl rfl rfl rfl gh (wp_run (v := .int .i64 (k : Int)) (w' := w1) (xmove rfl e5) ⟨_, rfl, rfl, Below.refl _ w1⟩)
          · obtain rfl := Option.some.inj hi
            obtain ⟨gu, gh, gg⟩ := hdep ⟨35, .guard⟩ (by simp) rfl _ 93 rfl rfl
            have gg : gu = .bool true := gg
            subst gg
            obtain ⟨u95, h95, g95⟩ := hdep ⟨37, .data⟩ (by simp) rfl _ 95 rfl rfl
            have g95 : u95 = .int .i64 (k : Int) := g95
            subst g95
            have e95 := eval_of h95
            exact wpOp_yes rfl rfl rfl rfl gh (wp_run (v := .int .i64 (i : Int)) (w' := w1) (xsub rfl e95 rfl hsub1) ⟨_, rfl, rfl, Below.refl _ w1⟩)
          · obtain rfl := Option.some.inj hi
            obtain ⟨gu, gh, gg⟩ := hdep ⟨35, .guard⟩ (by simp) rfl _ 93 rfl rfl
            have gg : gu = .bool true := gg
            subst gg
            have e8 : a.eval (.tmp 8) = .int .i64 (b : Int) := eval_of ((hrest 8 (no_dst0 (by kernel_rfl))).trans rfl)
            exact wpOp_yes rfl rfl rfl rfl gh (wp_run (v := .int .i64 (b : Int)) (w' := w1) (xmove rfl e8) ⟨_, rfl, rfl, Below.refl _ w1⟩)
          · obtain rfl := Option.some.inj hi
            obtain ⟨gu, gh, gg⟩ := hdep ⟨35, .guard⟩ (by simp) rfl _ 93 rfl rfl
            have gg : gu = .bool true := gg
            subst gg
            obtain ⟨u94, h94, g94⟩ := hdep ⟨36, .data⟩ (by simp) rfl _ 94 rfl rfl
            have g94 : u94 = .slice (some ⟨g9, 0, none⟩) k cap9 := g94
            subst g94
            have e94 := eval_of h94
            obtain ⟨u96, h96, g96⟩ := hdep ⟨38, .data⟩ (by simp) rfl _ 96 rfl rfl
            have g96 : u96 = .int .i64 (i : Int) := g96
            subst g96
            have e96 := eval_of h96
            obtain ⟨u97, h97, g97⟩ := hdep ⟨39, .data⟩ (by simp) rfl _ 97 rfl rfl
            have g97 : u97 = .int .i64 (b : Int) := g97
            subst g97
            have e97 := eval_of h97
            exact wpOp_yes rfl rfl rfl rfl gh (wp_call3 _ _ Try.func12 (by decide) (by intro hh; cases hh) _ _ _ _ _ _ e94 e96 e97 _ rfl (HR3.out w1 hb1) (fun w' hb => ⟨_, rfl, rfl, hb⟩))
          · obtain rfl := Option.some.inj hi
            obtain ⟨u93, h93, g93⟩ := hdep ⟨35, .data⟩ (by simp) rfl _ 93 rfl rfl
            have g93 : u93 = .bool true := g93
            subst g93
            have e93 := eval_of h93
            obtain ⟨u98, h98, g98⟩ := hdep ⟨40, .data⟩ (by simp) rfl _ 98 rfl rfl
            have g98 : u98 = .bool true := g98
            subst g98
            have e98 := eval_of h98
            exact wpOp_of rfl rfl (wp_run (v := .bool true) (w' := w1) (xpick rfl e93 e98 rfl) ⟨_, rfl, rfl, Below.refl _ w1⟩)
          · obtain rfl := Option.some.inj hi
            obtain ⟨u99, h99, g99⟩ := hdep ⟨41, .data⟩ (by simp) rfl _ 99 rfl rfl
            have g99 : u99 = .bool true := g99
            subst g99
            have e99 := eval_of h99
            exact wpOp_of rfl rfl (wp_run (v := .bool true) (w' := w1) (xmove rfl e99) ⟨_, rfl, rfl, Below.refl _ w1⟩)
          · obtain rfl := Option.some.inj hi
            obtain ⟨gu, gh, gg⟩ := hdep ⟨42, .guard⟩ (by simp) rfl _ 100 rfl rfl
            have gg : gu = .bool true := gg
            subst gg
            exact wpOp_yes rfl rfl rfl rfl gh (wp_call0 _ _ Try.func14 (by decide) (by intro hh; cases hh) _ rfl (HAW.out w1 hb1) (fun w' hb => ⟨_, rfl, rfl, hb⟩))
          · obtain rfl := Option.some.inj hi
            obtain ⟨u100, h100, g100⟩ := hdep ⟨42, .data⟩ (by simp) rfl _ 100 rfl rfl
            have g100 : u100 = .bool true := g100
            subst g100
            have e100 := eval_of h100
            obtain ⟨u101, h101, g101⟩ := hdep ⟨43, .data⟩ (by simp) rfl _ 101 rfl rfl
            have g101 : u101 = .bool true := g101
            subst g101
            have e101 := eval_of h101
            exact wpOp_of rfl rfl (wp_run (v := .bool true) (w' := w1) (xpick rfl e100 e101 rfl) ⟨_, rfl, rfl, Below.refl _ w1⟩)
          · obtain rfl := Option.some.inj hi
            obtain ⟨u102, h102, g102⟩ := hdep ⟨44, .data⟩ (by simp) rfl _ 102 rfl rfl
            have g102 : u102 = .bool true := g102
            subst g102
            have e102 := eval_of h102
            exact wpOp_of rfl rfl (wp_run (v := .bool true) (w' := w1) (xassign rfl e102) ⟨_, rfl, rfl, Below.refl _ w1⟩)
        · intro listed a w2' h hr
          have hl := all_listed (by kernel_rfl) h.lsize hr
          obtain ⟨v', h4, hv⟩ := h.done 45 _ 4 rfl rfl (hl 45 (by decide))
          have hv : v' = .bool true := hv
          subst hv
          have hb := h.below
          have hdf : a.defers = [] := h.defers
          clear hl hr h
          refine hK9 _ _ (wp_ret ?_)
          show bodyPost Try.prog Try.f7 (fun e w' => e = .returned (.bool true) ∧ Below w.heap.size w w') Exit.ret a w2'
          exact bodyPost_ret (v := .bool true) (res_chain h4) hdf ⟨rfl, HBF.out _ hb⟩

end Go.Proofs.Ytalhpdgpnfedkaa
