/- The document's parser: names (tokens in a row). The document's parser: place (of a name among some). The document's parser: lams. The document's parser: one token on; lists of names that stay. -/
import Derived.Test.YtgkeblpjmfdhkaaYAM
namespace Go.Proofs.Ytgkeblpjmfdhkaa
open Go.RowKit Go.Maps
set_option linter.unusedVariables false
set_option linter.unusedSimpArgs false

/-- As many names as there are, as tokens. -/
def namesT : List Tk → List Tk × List Tk
  | [] => ([], [])
  | t :: r => if srt t = sName then (t :: (namesT r).1, (namesT r).2) else ([], t :: r)
def PS.toks (σ : PS) : List Tk × PS := ((namesT σ.ts).1, ⟨(namesT σ.ts).2, σ.st, σ.at_⟩)
theorem namesT_eq : ∀ l : List Tk, namesL l = ((namesT l).1.map Tk.s, (namesT l).2)
  | [] => rfl
  | t :: r => by
    unfold namesL namesT
    rw [namesT_eq r]
    split <;> rfl
theorem toks_names (σ : PS) : σ.names = (σ.toks.1.map Tk.s, σ.toks.2) := by unfold PS.names PS.toks; rw [namesT_eq]
theorem toks_len (σ : PS) : σ.toks.1.length + σ.toks.2.ts.length = σ.ts.length := by
  have h : ∀ l : List Tk, (namesT l).1.length + (namesT l).2.length = l.length := by
    intro l; induction l with
    | nil => rfl
    | cons t r ih => unfold namesT; split <;> simp <;> omega
  exact h σ.ts
/-- A slice of tokens of a call's own. -/
def TokS (W0 : World) (w : World) (a : Option Addr) (cp : Nat) (l : List Tk) : Prop := InC (New W0) w (.s l.length 4 ((tkCs l).map Cl.v)) (.slice a l.length cp) ∧ (a = none → l.length = 0 ∧ cp = 0)
theorem tkCs_len : ∀ l : List Tk, (tkCs l).length = l.length * 4
  | [] => rfl
  | t :: r => by
    have := tkCs_len r
    show (tkC t ++ tkCs r).length = _
    rw [List.length_append, this, List.length_cons, tkC_length]; omega
theorem vals_ins (S : Nat → Prop) (w : World) : ∀ l : List Value, InS S w (l.map Cl.v) l
  | [] => InS.nil
  | s :: r => InS.cons (.v _) (vals_ins S w r)
theorem ins_vals {S : Nat → Prop} {w : World} : ∀ {l us : List Value}, InS S w (l.map Cl.v) us → us = l
  | [], us, h => List.eq_nil_of_length_eq_zero (by simpa using h.1)
  | x :: r, us, h => by
    obtain ⟨u, r', rfl, _⟩ := three_cons (n := r.length) (by simpa using h.1)
    rw [h.head.val, ins_vals h.tail]

set_option maxRecDepth 100000 in
set_option maxHeartbeats 2000000 in
theorem c_names {c : Px} {W0 W : World} {σ : PS} (h : Cay c W0 W σ) {A : List Tk × PS} (hA : σ.toks = A) :
    Calls Try.prog 52 #[.pointer (some ⟨c.R, 0, none⟩)] W fun e w' => ∃ a cp, e = .returned (.slice a A.1.length cp) ∧ TokS W0 w' a cp A.1 ∧ Cay c W0 w' A.2 ∧ Out (fun b => b = c.R) W w' := by
  subst hA
  obtain ⟨i0, hi0, hz0, hz1, hz2⟩ := info_parts Try.tokInfo
  have H := Lib.hid h
  have hR := h.lt
  have hlen : σ.ts.length ≤ 65536 := Nat.le_trans h.rd.short h.rd.len
  have hRW : c.R < W.heap.size := h.rd.lt
  clear h
  go_enter Try.func52, Try.ntmps52
  go_wp2_with fail
  go_loopg [3] (σ.ts.length) (fun gn v wr => ∃ (dn : List Tk) (τ : PS), Hid (Cay c W0 wr τ) ∧ Hid (Out (fun b => b = c.R) W wr) ∧ Hid (wr.ownsRow W.heap.size 103 4 v dn.length (tkCs dn)) ∧ Hid (σ.toks = (dn ++ τ.toks.1, τ.toks.2)) ∧ gn = τ.ts.length ∧ dn.length + τ.ts.length ≤ 65536)
  case atStart => exact ⟨[], σ, H, Out.refl _ _, World.ownsRow_nil _ _ _ _, rfl, rfl, by simpa using hlen⟩
  case round =>
    obtain ⟨dn, τ, HC, HO, HW, HN, rfl, hl⟩ := hrel
    have H9 := H
    clear H
    cases hs : τ.sees sName with
    | true =>
      have hp := sees_pos hs (by decide)
      obtain ⟨A, hA⟩ : ∃ A, τ.take c.En sName = A := ⟨_, rfl⟩
      have HA := Lib.hid hA
      have HS := Lib.hid hs
      have hlt : A.2.ts.length < τ.ts.length := by rw [← hA]; exact take_lt hs (by decide)
      have hnm : Hid (σ.toks = (dn ++ [A.1] ++ A.2.toks.1, A.2.toks.2)) := by
        show _ = _
        rw [HN.out, ← hA]
        unfold PS.take; rw [if_pos hs]
        obtain ⟨ts, st, at_⟩ := τ
        cases ts with
        | nil => simp at hp
        | cons t r =>
          have h1 : srt t = sName := of_decide_eq_true hs
          simp [PS.toks, PS.head, PS.tail, namesT, h1]
      clear hA hs HN
      obtain ⟨L, hL⟩ : ∃ L, dn.length = L := ⟨_, rfl⟩
      have HL := Lib.hid hL
      rw [hL] at HW hl
      clear hL
      obtain ⟨va, vc, hv⟩ := own_shape HW.out
      have HLO := Lib.hid (ownsRow_lo HW.out)
      subst hv
      go_wp2_with (first
        | (go_at_call 50; refine (c_peek HC.out sName askName rfl rfl HS.out).mono ?_; clear HC; rintro e w2 ⟨rfl, HC, ho1⟩; replace HO := Lib.hid (HO.out.trans ho1); replace HW := Lib.hid (own_out HW.out ho1 hRW); clear ho1; replace HC := Lib.hid HC)
        | (go_at_call 51; refine (c_eat HC.out sName askName (by decide) rfl rfl HA.out).mono ?_; clear HC; rintro e w3 ⟨rfl, HC, ho1⟩; replace HO := Lib.hid (HO.out.trans ho1); replace HW := Lib.hid (own_out HW.out ho1 hRW); clear ho1; replace HC := Lib.hid HC)
        | (at_builtin; refine wpList_append_lies _ rfl _ _ 81 rfl W.heap.size 103 i0 (.agg #[.int .i64 0, .int .i64 0, .string ⟨#[]⟩, .int .i64 0]) 4 40 Try.underlying81 hi0 hz0 hz1 hz2 rfl (by decide) _ L (tkCs dn) rfl (HW.out.alloc _) ⟨w3.heap.size, 0, none⟩ 1 1 [.int .i64 (A.1.k : Int), .int .i64 (A.1.p : Int), .string (strB A.1.s), .int .i64 (A.1.n : Int)] rfl rfl (news_at (cs := [.int .i64 (A.1.k : Int), .int .i64 (A.1.p : Int), .string (strB A.1.s), .int .i64 (A.1.n : Int)]) rfl) (by simp [Value.oneCell']) (by decide) ?c3 ?c4 ?c5 _ rfl ?_))
      case c3 => unfold maxLen; omega
      case c4 => omega
      case c5 => have := HO.out.size; simp; omega
      intro g cap w9 hown9 hgrow hat hlt9
      have hcar := (HC.out.alloc (.cells #[.int .i64 (A.1.k : Int), .int .i64 (A.1.p : Int), .string (strB A.1.s), .int .i64 (A.1.n : Int)] 103)).grown H9.out (HO.out.alloc _) hgrow fun q hq => (HLO.out q hq).1
      have HC9 := Lib.hid hcar.1
      have HO9 := Lib.hid hcar.2
      have HW9 := Lib.hid hown9
      clear hcar hgrow hat hlt9 hown9 HC HO HW
      go_wp2_with fail
      go_roundg A.2.ts.length
      case measure => exact hlt
      case rel => exact ⟨dn ++ [A.1], A.2, HC9, HO9, by rw [tkCs_snoc]; simpa [HL.out, tkC] using HW9, hnm, rfl, by simp [HL.out]; omega⟩
    | false =>
      have HS := Lib.hid hs
      have hnm : Hid (τ.toks = ([], τ)) := by
        show _ = _
        obtain ⟨ts, st, at_⟩ := τ
        cases ts with
        | nil => rfl
        | cons t r =>
          have h1 : ¬ srt t = sName := of_decide_eq_false hs
          simp [PS.toks, namesT, h1]
      obtain ⟨va, vc, hv⟩ := own_shape HW.out
      have hn2 : Hid (σ.toks = (dn, τ)) := by show _ = _; rw [HN.out, hnm.out]; simp
      have HLO := Lib.hid (ownsRow_lo HW.out)
      subst hv
      clear hs HN hnm
      go_wp2_with (go_at_call 50; refine (c_peek HC.out sName askName rfl rfl HS.out).mono ?_; clear HC; rintro e w2 ⟨rfl, HC, ho1⟩; replace HO := Lib.hid (HO.out.trans ho1); replace HW := Lib.hid (own_out HW.out ho1 hRW); clear ho1; replace HC := Lib.hid HC)
      go_ret
      rw [hn2.out]
      refine ⟨va, vc, rfl, ⟨?_, own_nil HW.out⟩, HC.out, HO.out⟩
      exact InC.of_owns HW.out (vals_ins _ _ _) (fun b hb => by have := HLO.out b hb; have := H9.out.size; unfold New; omega) (by rw [List.length_map, tkCs_len])

end Go.Proofs.Ytgkeblpjmfdhkaa

namespace Go.Proofs.Ytgkeblpjmfdhkaa
open Go.RowKit Go.Maps
set_option linter.unusedVariables false
set_option linter.unusedSimpArgs false

/-- Texts behind a slice, in blocks of S. -/
theorem strs_aty {S : Nat → Prop} {w : World} {l : List By} {a : Option Addr} {m cp : Nat} (h : InC S w (.s l.length 1 (strsC l)) (.slice a m cp)) : m = l.length ∧ m ≤ cp ∧ (l.length = 0 ∨ ∃ b off, a = some ⟨b, off, none⟩ ∧ S b ∧ b < w.heap.size ∧ ∀ j, j < l.length → w.cell? ⟨b, off + j, none⟩ = some (.string (strB (l.getD j [])))) := by
  have hcp : m ≤ cp := by
    obtain ⟨_, _, h1, h2, _⟩ := h.slice
    cases h1; exact h2
  obtain ⟨h1, h2 | ⟨b, off, us, h2, h3, h4, h5, h6⟩⟩ := h.at_
  · exact ⟨h1, hcp, .inl h2⟩
  · refine ⟨h1, hcp, .inr ⟨b, off, h2, h3, h4, fun j hj => ?_⟩⟩
    have hul : us.length = l.length := by rw [h5.1]; simp [strsC]
    have hu : us[j]? = some us[j] := List.getElem?_eq_getElem (by omega)
    have hc : (strsC l)[j]? = some (bC (l.getD j [])) := by simp [strsC, List.getD, List.getElem?_eq_getElem hj]
    rw [h6 j _ hu, (h5.2 j _ _ hc hu).val]
def placeI (vs : List By) (s : By) : Int := match placeL vs s with
  | none => -1
  | some i => (i : Int)
theorem place_step {vs : List By} {s : By} {k : Nat} (hk : k < vs.length) (hn : vs.getD k [] ≠ s) : placeI (vs.drop k) s = -1 ∧ placeI (vs.drop (k + 1)) s = -1 ∨ ∃ i : Nat, placeI (vs.drop k) s = ((i + 1 : Nat) : Int) ∧ placeI (vs.drop (k + 1)) s = (i : Int) := by
  have h1 : vs.drop k = vs.getD k [] :: vs.drop (k + 1) := by
    rw [List.drop_eq_getElem_cons hk]; simp [List.getD, List.getElem?_eq_getElem hk]
  unfold placeI
  rw [h1, placeL, if_neg hn]
  cases placeL (vs.drop (k + 1)) s with
  | none => exact .inl ⟨rfl, rfl⟩
  | some i => exact .inr ⟨i, rfl, rfl⟩
/-- Where a name stands, told by what is still to be looked at. -/
def Pin (vs : List By) (s : By) (k : Nat) : Prop := placeI vs s = if placeI (vs.drop k) s = -1 then -1 else (k : Int) + placeI (vs.drop k) s
theorem pin_next {vs : List By} {s : By} {k : Nat} (h : Pin vs s k) (hk : k < vs.length) (hn : vs.getD k [] ≠ s) : Pin vs s (k + 1) := by
  unfold Pin at *
  rcases place_step hk hn with ⟨h1, h2⟩ | ⟨i, h1, h2⟩
  · rw [h, h1, h2, if_pos rfl, if_pos rfl]
  · rw [h, h1, h2, if_neg (by omega), if_neg (by omega)]; omega
theorem strB_ne {a b : By} (h : a ≠ b) : ((strB a).toList == (strB b).toList) = false := by
  rw [ByteArray.toList_eq, ByteArray.toList_eq, strB_data, strB_data]
  exact beq_false_of_ne h

set_option maxRecDepth 100000 in
set_option maxHeartbeats 2000000 in
theorem y_place (S : Nat → Prop) (vs : List By) (s : By) (a : Option Addr) (cp : Nat) (w : World) (h : InC S w (.s vs.length 1 (strsC vs)) (.slice a vs.length cp)) (hl : vs.length ≤ 1000000) :
    Calls Try.prog 70 #[.slice a vs.length cp, .string (strB s)] w fun e w' => e = .returned (.int .i64 (placeI vs s)) ∧ ∃ n, w' = w.drewN n := by
  obtain ⟨_, hcp, hc⟩ := strs_aty h
  have HC := Lib.hid hc
  have HP0 : Hid (Pin vs s 0) := by
    show _ = _
    rw [List.drop_zero]; split
    · assumption
    · omega
  obtain ⟨v, hv⟩ : ∃ v, placeI vs s = v := ⟨_, rfl⟩
  have HV := Lib.hid hv
  rw [hv]
  obtain ⟨N, hN⟩ : ∃ N, vs.length = N := ⟨_, rfl⟩
  have HN := Lib.hid hN
  rw [hN] at hl hcp ⊢
  obtain ⟨SS, hSS⟩ : ∃ SS, strB s = SS := ⟨_, rfl⟩
  have HSS := Lib.hid hSS
  rw [hSS]
  clear h hc hv hN hSS
  go_enter Try.func70, Try.ntmps70
  go_wp2_with fail
  go_loopw [5] (fun i wr => ∃ (k q : Nat), k ≤ N ∧ i = .int .i64 k ∧ Hid (Pin vs s k) ∧ wr = w.drewN q) (fun i _ => N - (intOf i).toNat)
  case atStart => exact ⟨0, 0, Nat.zero_le _, rfl, HP0, rfl⟩
  case round =>
    obtain ⟨k, q, hk, rfl, HP, rfl⟩ := hrel
    by_cases hlt : k < N
    · obtain ⟨b, off, rfl, _, hb, hcell⟩ := HC.out.resolve_left (by have := HN.out; omega)
      have c1 : (w.drewN q).cell? ⟨b, off + k, none⟩ = some (.string (strB (vs.getD k []))) := hcell k (by have := HN.out; omega)
      clear hcell
      by_cases he : vs.getD k [] = s
      · have hz : ((strB (vs.getD k [])).toList == SS.toList) = true := by rw [he, HSS.out]; simp
        have hvk : Hid (v = (k : Int)) := by
          show _ = _
          rw [← HV.out]
          have h2 : placeI (vs.drop k) s = 0 := by
            unfold placeI
            rw [List.drop_eq_getElem_cons (by have := HN.out; omega), placeL]
            have : vs[k]'(by have := HN.out; omega) = s := by rw [← he]; simp [List.getD, List.getElem?_eq_getElem (show k < vs.length by have := HN.out; omega)]
            rw [if_pos this]; rfl
          have h3 := HP.out
          unfold Pin at h3
          rw [h3, h2, if_neg (by omega)]; omega
        generalize strB (vs.getD k []) = Z at *
        clear he HP
        go_wp2_with fail
        go_ret
        exact ⟨by rw [hvk.out]; rfl, q, rfl⟩
      · have hz : ((strB (vs.getD k [])).toList == SS.toList) = false := by rw [← HSS.out]; exact strB_ne he
        have HP2 := Lib.hid (pin_next HP.out (by have := HN.out; omega) he)
        generalize strB (vs.getD k []) = Z at *
        clear he HP
        go_wp2_with fail
        go_roundw
        case rel => exact ⟨k + 1, q, by omega, by go_num, HP2, rfl⟩
        case measure => simp [intOf]; omega
    · have hvk : Hid (v = -1) := by
        show _ = _
        rw [← HV.out]
        have h3 := HP.out
        have h4 : vs.drop k = [] := List.drop_eq_nil_of_le (by have := HN.out; omega)
        unfold Pin at h3
        rw [h4] at h3
        rw [h3]; rfl
      go_wp2_with fail
      go_ret
      exact ⟨by rw [hvk.out]; rfl, q, rfl⟩

end Go.Proofs.Ytgkeblpjmfdhkaa

namespace Go.Proofs.Ytgkeblpjmfdhkaa
open Go.RowKit Go.Maps
set_option linter.unusedVariables false
set_option linter.unusedSimpArgs false

/-- Tokens behind a slice, cell by cell. -/
theorem TokS.cells {W0 w : World} {a : Option Addr} {cp : Nat} {l : List Tk} (h : TokS W0 w a cp l) : l.length ≤ cp ∧ (l.length = 0 ∨ ∃ b off, a = some ⟨b, off, none⟩ ∧ New W0 b ∧ b < w.heap.size ∧ (∀ (i : Nat) (t : Tk), l[i]? = some t → w.cell? ⟨b, off + i * 4 + 2, none⟩ = some (.string (strB t.s))) ∧ ∀ (i : Nat) (u : Value), (tkCs l)[i]? = some u → w.cell? ⟨b, off + i, none⟩ = some u) := by
  have hcp : l.length ≤ cp := by
    obtain ⟨_, _, h1, h2, _⟩ := h.1.slice
    cases h1; exact h2
  refine ⟨hcp, ?_⟩
  obtain ⟨h1, h2 | ⟨b, off, us, h2, h3, h4, h5, h6⟩⟩ := h.1.at_
  · exact .inl h2
  · obtain rfl := ins_vals h5
    refine .inr ⟨b, off, h2, h3, h4, fun i t ht => ?_, h6⟩
    have := tkCs_at l i t ht 2 (by decide)
    have := h6 (i * 4 + 2) (.string (strB t.s)) (this.trans rfl)
    rwa [← Nat.add_assoc] at this
theorem TokS.stay {W0 w w' : World} {a : Option Addr} {cp : Nat} {l : List Tk} {R : Nat} (h : TokS W0 w a cp l) (ho : Out (fun b => b = R) w w') (hR : R < W0.heap.size) : TokS W0 w' a cp l := ⟨stayC ho hR h.1, h.2⟩
theorem TokS.under {W0 w w' : World} {a : Option Addr} {cp : Nat} {l : List Tk} (h : TokS W0 w a cp l) (hb : Below w.heap.size w w') : TokS W0 w' a cp l := ⟨h.1.under hb, h.2⟩
/-- What is made of names from the k-th on. -/
theorem lams_drop (p : Int) (l : List By) (body : Ex) (k : Nat) (hk : k < l.length) : lams p (l.drop k) body = .mk 6 p (l.getD k []) 0 [lams p (l.drop (k + 1)) body] [] := by
  unfold lams
  rw [List.drop_eq_getElem_cons hk, List.foldr_cons]
  simp [List.getD, List.getElem?_eq_getElem hk]
theorem box_six {w : World} {b : Nat} {t : TypeId} {us : List Value} {v0 v1 v2 v3 v4 v5 : Value} (h : Box w b t us) (hl : us.length = 6) : Box ((((((w.setCell ⟨b, 0, none⟩ v0).setCell ⟨b, 1, none⟩ v1).setCell ⟨b, 2, none⟩ v2).setCell ⟨b, 3, none⟩ v3).setCell ⟨b, 4, none⟩ v4).setCell ⟨b, 5, none⟩ v5) b t [v0, v1, v2, v3, v4, v5] := by
  have := (((((h.set 0 v0).set 1 v1).set 2 v2).set 3 v3).set 4 v4).set 5 v5
  match us, hl with
  | [a0, a1, a2, a3, a4, a5], _ => simpa using this
/-- Six cells stored into a box at once: the box is theirs, all else as it was. -/
theorem below_six {B b : Nat} {w W : World} (h : Below B w W) (hb : B ≤ b) (v0 v1 v2 v3 v4 v5 : Value) : Below B w ((((((W.setCell ⟨b, 0, none⟩ v0).setCell ⟨b, 1, none⟩ v1).setCell ⟨b, 2, none⟩ v2).setCell ⟨b, 3, none⟩ v3).setCell ⟨b, 4, none⟩ v4).setCell ⟨b, 5, none⟩ v5) :=
  (((((h.setCell (p := ⟨b, 0, none⟩) hb _).setCell (p := ⟨b, 1, none⟩) hb _).setCell (p := ⟨b, 2, none⟩) hb _).setCell (p := ⟨b, 3, none⟩) hb _).setCell (p := ⟨b, 4, none⟩) hb _).setCell (p := ⟨b, 5, none⟩) hb _
theorem other_six {b k : Nat} (W : World) (v0 v1 v2 v3 v4 v5 : Value) (hk : k ≠ b) : ((((((W.setCell ⟨b, 0, none⟩ v0).setCell ⟨b, 1, none⟩ v1).setCell ⟨b, 2, none⟩ v2).setCell ⟨b, 3, none⟩ v3).setCell ⟨b, 4, none⟩ v4).setCell ⟨b, 5, none⟩ v5).heap[k]? = W.heap[k]? :=
  (Below.heap_setCell _ ⟨b, 5, none⟩ _ k hk).trans ((Below.heap_setCell _ ⟨b, 4, none⟩ _ k hk).trans ((Below.heap_setCell _ ⟨b, 3, none⟩ _ k hk).trans ((Below.heap_setCell _ ⟨b, 2, none⟩ _ k hk).trans ((Below.heap_setCell _ ⟨b, 1, none⟩ _ k hk).trans (Below.heap_setCell W ⟨b, 0, none⟩ _ k hk)))))

set_option maxRecDepth 100000 in
set_option maxHeartbeats 4000000 in
theorem y_lamsS (S : Nat → Prop) (W0 w : World) (p : Int) (l : List Tk) (body : Ex) (a : Option Addr) (cap : Nat) (v : Value) (hS : ∀ b, w.heap.size ≤ b → S b)
    (hl : l.length ≤ 1000000) (hN : TokS W0 w a cap l) (hv : IsV S w (exC body) v) :
    Calls Try.prog 56 #[.slice a l.length cap, .int .i64 p, v] w fun e w' => ∃ v', e = .returned v' ∧ IsV S w' (exC (lams p (l.map Tk.s) body)) v' ∧ Below w.heap.size w w' := by
  obtain ⟨hcp, hcells⟩ := hN.cells
  have HCE := Lib.hid hcells
  obtain ⟨x0, x1, x2, x3, x4, x5, x6, x7, x8, x9, hx9, _⟩ := hv.exs
  subst hx9
  obtain ⟨N, hNN⟩ : ∃ N, l.length = N := ⟨_, rfl⟩
  have HNN := Lib.hid hNN
  rw [hNN] at hl hcp ⊢
  have hnw : ∀ b, b < w.heap.size → S b → (S b ∧ b ≠ w.heap.size ∧ b ≠ w.heap.size + 1) := fun b hb h => ⟨h, by omega, by omega⟩
  have hB0 : Below w.heap.size w ((w.alloc (.cells #[.int .i64 x0, .int .i64 x1, .string (strB x3), .int .i64 x2, .slice x4 x6 x8, .slice x5 x7 x9] 43)).alloc (.cells #[.int .i64 0, .int .i64 0, .string ⟨#[]⟩, .int .i64 0, .slice none 0 0, .slice none 0 0] 43)) := by go_grown
  have b5 := (Box.new w 43 [.int .i64 x0, .int .i64 x1, .string (strB x3), .int .i64 x2, .slice x4 x6 x8, .slice x5 x7 x9]).alloc (.cells #[.int .i64 0, .int .i64 0, .string ⟨#[]⟩, .int .i64 0, .slice none 0 0, .slice none 0 0] 43)
  have b6 := Box.new (w.alloc (.cells #[.int .i64 x0, .int .i64 x1, .string (strB x3), .int .i64 x2, .slice x4 x6 x8, .slice x5 x7 x9] 43)) 43 [.int .i64 0, .int .i64 0, .string ⟨#[]⟩, .int .i64 0, .slice none 0 0, .slice none 0 0]
  have hv3 : InS (fun b => S b ∧ b ≠ w.heap.size ∧ b ≠ w.heap.size + 1) ((w.alloc (.cells #[.int .i64 x0, .int .i64 x1, .string (strB x3), .int .i64 x2, .slice x4 x6 x8, .slice x5 x7 x9] 43)).alloc (.cells #[.int .i64 0, .int .i64 0, .string ⟨#[]⟩, .int .i64 0, .slice none 0 0, .slice none 0 0] 43)) (exC body) [.int .i64 x0, .int .i64 x1, .string (strB x3), .int .i64 x2, .slice x4 x6 x8, .slice x5 x7 x9] := by
    have := ((hv.mono hnw).under hB0).cells
    simpa [Value.cells] using this
  have hsz : ((w.alloc (.cells #[.int .i64 x0, .int .i64 x1, .string (strB x3), .int .i64 x2, .slice x4 x6 x8, .slice x5 x7 x9] 43)).alloc (.cells #[.int .i64 0, .int .i64 0, .string ⟨#[]⟩, .int .i64 0, .slice none 0 0, .slice none 0 0] 43)).heap.size = w.heap.size + 1 + 1 := by simp
  rw [World.size_alloc] at b6
  have HB0 := Lib.hid hB0
  have HB5 := Lib.hid b5
  have HB6 := Lib.hid b6
  have HV3 := Lib.hid hv3
  have hd0 : lams p ((l.map Tk.s).drop N) body = body := by rw [List.drop_eq_nil_of_le (by simp; omega)]; rfl
  have HD0 := Lib.hid hd0
  clear hN hv hcells hB0 b5 b6 hv3 hNN hd0 hnw
  go_enter Try.func56, Try.ntmps56
  go_wp2_with fail
  go_loopg [7] N (fun gn i wr => ∃ (k : Nat) (us : List Value), k ≤ N ∧ gn = k ∧ i = .int .i64 ((k : Int) - 1) ∧ Hid (Below w.heap.size w wr) ∧ Hid (Box wr w.heap.size 43 us) ∧ Hid (Box wr (w.heap.size + 1) 43 [.int .i64 0, .int .i64 0, .string ⟨#[]⟩, .int .i64 0, .slice none 0 0, .slice none 0 0]) ∧ Hid (InS (fun b => S b ∧ b ≠ w.heap.size ∧ b ≠ w.heap.size + 1) wr (exC (lams p ((l.map Tk.s).drop k) body)) us))
  case atStart => exact ⟨N, _, Nat.le_refl _, rfl, rfl, HB0, HB5, HB6, by rw [HD0.out]; exact HV3⟩
  case round =>
    obtain ⟨k, us, hk, rfl, rfl, HB, HX, HY, HT⟩ := hrel
    clear HB0 HB5 HB6 HV3 HD0
    obtain ⟨z0, z1, z2, z3, z4, z5, z6, z7, z8, z9, hz9, _⟩ := IsV.exs ⟨us, rfl, HT.out⟩
    have hus2 : us = [.int .i64 z0, .int .i64 z1, .string (strB z3), .int .i64 z2, .slice z4 z6 z8, .slice z5 z7 z9] := by
      have := congrArg (fun v => v.cells.toList) hz9
      simpa [Value.cells] using this
    subst hus2
    clear hz9
    have lx := HX.out.lt
    have ly := HY.out.lt
    by_cases h0 : 0 < gk
    · obtain ⟨b, off, rfl, hbn, hb, hcell, _⟩ := HCE.out.resolve_left (by have := HNN.out; omega)
      obtain ⟨j, rfl⟩ : ∃ j, gk = j + 1 := ⟨gk - 1, by omega⟩
      have hj : j < l.length := by have := HNN.out; omega
      have hjN : j < N := by have := HNN.out; omega
      have q2 : wr.cell? ⟨b, off + j * 4 + 2, none⟩ = some (.string (strB (l[j]'hj).s)) := (HB.out.cell (p := ⟨b, off + j * 4 + 2, none⟩) hb).trans (hcell j _ (List.getElem?_eq_getElem hj))
      obtain ⟨t, ht⟩ : ∃ t, l[j]'hj = t := ⟨_, rfl⟩
      rw [ht] at q2
      have HTJ : Hid ((l.map Tk.s).getD j [] = t.s) := by show _ = _; simp [List.getD, List.getElem?_eq_getElem hj, ht]
      have HLJ := Lib.hid (lams_drop p (l.map Tk.s) body j (by simpa using hj))
      have T9 : ∀ W, Sem.run Try.prog (Instr.indexAt 81 (.slice (some ⟨b, off, none⟩) N cap) (.int .i64 (j : Int))) W = .ok (.pointer (some ⟨b, off + j * 4, none⟩)) W := fun W => by go_simp
      have hbl : b < wr.heap.size := by have := HB.out.size; omega
      have hne : b ≠ w.heap.size := by omega
      obtain ⟨_, _, _, _, _, _⟩ := six_cells HX.out
      obtain ⟨_, _, _, _, _, _⟩ := six_frozen HX.out
      have e8 : (((j + 1 : Nat) : Int) - 1) = (j : Int) := by omega
      rw [e8]
      clear hcell ht e8
      obtain ⟨X, hX⟩ : ∃ X, strB t.s = X := ⟨_, rfl⟩
      have HX9 := Lib.hid hX
      rw [hX] at q2
      clear hX
      go_wp2_with fail
      go_region
      all_goals go_wp2_with fail
      all_goals
        go_roundg j
        case measure => omega
        case rel =>
          refine ⟨j, [.int .i64 6, .int .i64 p, .string X, .int .i64 0, .slice (some ⟨wr.heap.size, 0, none⟩) 1 1, .slice none 0 0], by omega, rfl, rfl, ?_, ?_, ?_, ?_⟩
          · exact Below.drew (Below.alloc (below_six HB.out (Nat.le_refl _) _ _ _ _ _ _) (by simp; omega) _)
          · exact Box.drew (Box.alloc (box_six HX.out rfl) _)
          · exact Box.drew (Box.alloc ((other_six _ _ _ _ _ _ _ (by omega)).trans HY.out) _)
          · show InS _ _ _ _
            rw [HLJ.out, HTJ.out, ← HX9.out]
            have h1 := HT.out
            generalize lams p ((l.map Tk.s).drop (j + 1)) body = bd at *
            have h2 : InS (fun b => S b ∧ b ≠ w.heap.size ∧ b ≠ w.heap.size + 1) ((((((wr.setCell ⟨w.heap.size, 0, none⟩ (.int .i64 6)).setCell ⟨w.heap.size, 1, none⟩ (.int .i64 p)).setCell ⟨w.heap.size, 2, none⟩ (.string (strB t.s))).setCell ⟨w.heap.size, 3, none⟩ (.int .i64 0)).setCell ⟨w.heap.size, 4, none⟩ (.slice (some ⟨wr.heap.size, 0, none⟩) 1 1)).setCell ⟨w.heap.size, 5, none⟩ (.slice none 0 0)) (exC bd) [.int .i64 z0, .int .i64 z1, .string (strB z3), .int .i64 z2, .slice z4 z6 z8, .slice z5 z7 z9] := h1.agree (fun b h3 h4 => ⟨h3, other_six _ _ _ _ _ _ _ h3.2.1⟩) (by simp)
            have hk := InC.of_new (t := 43) (n := 1) (k := 6) h2 (by have := HB.out.size; simp; exact ⟨hS _ this, by omega, by omega⟩) (by rw [exC_len]) (by decide)
            simp only [World.size_setCell] at hk
            unfold exC
            exact (InS.cons (.v _) (InS.cons (.v _) (InS.cons (.v _) (InS.cons (.v _) (InS.cons (by simpa [exsC] using hk) (InS.cons (.e _ _ _) InS.nil)))))).drew
    · have hg : gk = 0 := by omega
      subst hg
      obtain ⟨_, _, _, _, _, _⟩ := six_cells HX.out
      obtain ⟨_, _, _, _, _, _⟩ := six_cells HY.out
      obtain ⟨_, _, _, _, _, _⟩ := six_frozen HY.out
      go_wp2_with fail
      refine bodyPost_ret (v := .agg #[.int .i64 z0, .int .i64 z1, .string (strB z3), .int .i64 z2, .slice z4 z6 z8, .slice z5 z7 z9]) (by simp only [results, Try.results56]; go_simp <;> rfl) rfl ?_
      refine ⟨_, rfl, ⟨_, rfl, ?_⟩, ?_⟩
      · have h1 := HT.out
        rw [List.drop_zero] at h1
        exact h1.agree (fun b h1 h2 => ⟨h1.1, other_six _ _ _ _ _ _ _ h1.2.2⟩) (by simp)
      · exact below_six HB.out (Nat.le_succ _) _ _ _ _ _ _

theorem y_lams (W0 w : World) (p : Int) (l : List Tk) (body : Ex) (a : Option Addr) (cap : Nat) (v : Value) (hW : W0.heap.size ≤ w.heap.size)
    (hl : l.length ≤ 1000000) (hN : TokS W0 w a cap l) (hv : IsV (New W0) w (exC body) v) :
    Calls Try.prog 56 #[.slice a l.length cap, .int .i64 p, v] w fun e w' => ∃ v', e = .returned v' ∧ IsV (New W0) w' (exC (lams p (l.map Tk.s) body)) v' ∧ Below w.heap.size w w' :=
  y_lamsS (New W0) W0 w p l body a cap v (fun b hb => by unfold New; omega) hl hN hv
/-- A tree that lies beside a new variable stays as that is written. -/
theorem tree_six {W0 w : World} {B : Nat} {cs : List Cl} {v : Value} (h : IsV (fun b => New W0 b ∧ b ≠ B) w cs v) (v0 v1 v2 v3 v4 v5 : Value) : IsV (New W0) ((((((w.setCell ⟨B, 0, none⟩ v0).setCell ⟨B, 1, none⟩ v1).setCell ⟨B, 2, none⟩ v2).setCell ⟨B, 3, none⟩ v3).setCell ⟨B, 4, none⟩ v4).setCell ⟨B, 5, none⟩ v5) cs v :=
  h.agree (fun b h1 h2 => ⟨h1.1, other_six _ _ _ _ _ _ _ h1.2⟩) (by simp)

end Go.Proofs.Ytgkeblpjmfdhkaa

namespace Go.Proofs.Ytgkeblpjmfdhkaa
open Go.RowKit Go.Maps
set_option linter.unusedVariables false
set_option linter.unusedSimpArgs false

/-- The parser one token on. -/
theorem Cay.step {c : Px} {W0 w w' : World} {σ : PS} {t : Tk} {r : List Tk} {i : Nat} {a : Option Addr} (h : Cay c W0 w σ) (e : σ.ts = t :: r) (hst : σ.st = false) (hd : c.ts.drop i = t :: r) (hi : i < c.ts.length) (ha : c.a = a)
    (hb : Box w c.R 100 [.slice a c.ts.length c.cp, .int .i64 (i : Int), .int .i64 (c.En : Int), .bool false, .int .i64 (σ.at_ : Int)]) (hw : Below w.heap.size w w') :
    Cay c W0 (w'.setCell ⟨c.R, 1, none⟩ (.int .i64 ((i + 1 : Nat) : Int))) σ.tail ∧ Out (fun b => b = c.R) w (w'.setCell ⟨c.R, 1, none⟩ (.int .i64 ((i : Int) + 1))) := by
  show Cay c W0 (w'.setCell ⟨c.R, 1, none⟩ (.int .i64 ((i + 1 : Nat) : Int))) σ.tail ∧ Out (fun b => b = c.R) w (w'.setCell ⟨c.R, 1, none⟩ (.int .i64 ((i + 1 : Nat) : Int)))
  have hO := (Out.of_below (S := fun b => b = c.R) hw).set1 1 (.int .i64 ((i + 1 : Nat) : Int))
  have hX := (hb.below hw).set 1 (.int .i64 ((i + 1 : Nat) : Int))
  obtain ⟨ts, st, at_⟩ := σ
  dsimp only at e hst
  subst e hst
  have hdr : r = c.ts.drop (i + 1) := by
    have := congrArg List.tail hd
    rw [List.tail_drop] at this; exact this.symm
  refine ⟨h.next (h.rd.turn hO ⟨i + 1, hi, by rw [ha]; exact hX, fun _ => hdr, fun e => nomatch e⟩) hO, hO⟩
/-- The parser one token on, the token laid in a box of its own. -/
theorem Cay.stepTok {c : Px} {W0 w : World} {σ : PS} {t : Tk} {r : List Tk} {i : Nat} {a : Option Addr} (h : Cay c W0 w σ) (e : σ.ts = t :: r) (hst : σ.st = false) (hd : c.ts.drop i = t :: r) (hi : i < c.ts.length) (ha : c.a = a)
    (hb : Box w c.R 100 [.slice a c.ts.length c.cp, .int .i64 (i : Int), .int .i64 (c.En : Int), .bool false, .int .i64 (σ.at_ : Int)]) (us : List Value) :
    Cay c W0 ((w.setCell ⟨c.R, 1, none⟩ (.int .i64 ((i : Int) + 1))).alloc (.cells us.toArray 103)).drew σ.tail ∧ Out (fun b => b = c.R) w ((w.setCell ⟨c.R, 1, none⟩ (.int .i64 ((i : Int) + 1))).alloc (.cells us.toArray 103)).drew ∧ Box ((w.setCell ⟨c.R, 1, none⟩ (.int .i64 ((i : Int) + 1))).alloc (.cells us.toArray 103)).drew w.heap.size 103 us := by
  obtain ⟨h1, h2⟩ := h.step e hst hd hi ha hb (Below.refl _ _)
  refine ⟨(h1.alloc _).drew, (h2.alloc _).drew, ?_⟩
  have := Box.new (w.setCell ⟨c.R, 1, none⟩ (.int .i64 ((i : Int) + 1))) 103 us
  rw [World.size_setCell] at this
  exact this
/-- Names of variables in memory that the parser does not turn. -/
def VY (c : Px) (w : World) (a : Option Addr) (cp : Nat) (vs : List By) : Prop := InC (fun b => b ≠ c.R) w (.s vs.length 1 (strsC vs)) (.slice a vs.length cp) ∧ vs.length ≤ 65536
theorem VY.out {c : Px} {w w' : World} {a : Option Addr} {cp : Nat} {vs : List By} (h : VY c w a cp vs) (ho : Out (fun b => b = c.R) w w') : VY c w' a cp vs := ⟨h.1.out ho fun b _ h1 h2 => h1 h2, h.2⟩
theorem VY.under {c : Px} {w w' : World} {a : Option Addr} {cp : Nat} {vs : List By} (h : VY c w a cp vs) (hb : Below w.heap.size w w') : VY c w' a cp vs := ⟨h.1.under hb, h.2⟩
theorem c_place {c : Px} {W0 W : World} {σ : PS} {vs : List By} {a : Option Addr} {cp : Nat} (h : Cay c W0 W σ) (hV : VY c W a cp vs) (s : By) {S : ByteArray} (hS : strB s = S) {q : Int} (hq : placeI vs s = q) :
    Calls Try.prog 70 #[.slice a vs.length cp, .string S] W fun e w' => e = .returned (.int .i64 q) ∧ Cay c W0 w' σ ∧ Below W.heap.size W w' := by
  subst hS hq
  exact (y_place _ vs s a cp W hV.1 (by have := hV.2; omega)).mono fun e w' ⟨h1, n, h2⟩ => ⟨h1, by subst h2; exact h.drewN n, by subst h2; exact ⟨rfl, rfl, rfl, Nat.le_refl _, fun _ _ => rfl⟩⟩
/-- A row of this call's own is turned. -/
theorem Cay.grow {c : Px} {W0 w w' : World} {σ : PS} (h : Cay c W0 w σ) {row : Option Nat} (hg : w.grownBy w' row) (hr : ∀ q, row = some q → W0.heap.size ≤ q) : Cay c W0 w' σ :=
  ⟨h.rd.keep fun k hk => hg.block k (Nat.lt_of_le_of_lt hk h.rd.lt) (fun e => by have := hr k e.symm; have := h.lt; omega), h.out.grown hg fun q hq => .inr (hr q hq), h.lt⟩
theorem Nb.drew2 {B : Nat} {w w' : World} (h : Nb B w w') : Nb B w.drew w'.drew := ⟨h.os, h.tape, h.output, h.size, h.block⟩
theorem stop_st (En : Nat) (σ : PS) : (σ.stop En).st = true := by
  unfold PS.stop; split
  · assumption
  · rfl
theorem srt_k {t : Tk} {s : Srt} (h : srt t = s) : t.k = s.k := by
  rw [← h]; unfold srt; split <;> rfl
theorem sees_head {σ : PS} {s : Srt} (h : σ.sees s = true) (h0 : s.k ≠ 0) : ∃ t r, σ.ts = t :: r ∧ srt t = s ∧ t.k = s.k := by
  have hp := sees_pos h h0
  unfold PS.sees PS.next at h
  cases e : σ.ts with
  | nil => rw [e] at hp; simp at hp
  | cons t r =>
    rw [e] at h
    exact ⟨t, r, rfl, of_decide_eq_true h, srt_k (of_decide_eq_true h)⟩
theorem srt_s {t : Tk} {s : Srt} (h : srt t = s) (hk : s.k = 4 ∨ s.k = 5) : t.s = s.s := by
  have h1 := srt_k h
  rw [← h]; unfold srt; rw [if_pos (by omega)]
theorem PS.take_st {En : Nat} {σ : PS} {s : Srt} (h : (σ.take En s).2.st = false) : σ.st = false := by
  unfold PS.take at h
  split at h
  · exact h
  · unfold PS.stop at h
    split at h
    · exact h
    · cases h

end Go.Proofs.Ytgkeblpjmfdhkaa
