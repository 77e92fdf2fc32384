/- Contract of package lex: Lex. -/
import Derived.Test.YtdhkcbkeehameaaLexe
import Derived.Deep.AppendLies
namespace Go.Proofs.Ytdhkcbkeehameaa
open Go.RowKit
set_option linter.unusedVariables false
set_option linter.unusedSimpArgs false

theorem Try.tokInfo : (Try.prog.info? 38).map (fun i => (i.zero, i.size, i.bytes)) = some (some (.agg #[.int .i64 0, .int .i64 0, .string ⟨#[]⟩, .int .i64 0]), 4, 40) := by kernel_rfl

/-- A token's cells. -/
def tkC (t : Tk) : List Value := [.int .i64 (t.k : Int), .int .i64 (t.p : Int), .string (strB t.s), .int .i64 (t.n : Int)]
theorem tkC_length (t : Tk) : (tkC t).length = 4 := rfl
def tkCs (ts : List Tk) : List Value := ts.flatMap tkC
theorem tkCs_snoc (ts : List Tk) (t : Tk) : tkCs (ts ++ [t]) = tkCs ts ++ tkC t := by unfold tkCs; simp
/-- What Lex tells: tokens in new memory, or an error. -/
def LexOut (w : World) (x : Lx) (v : Value) (E A : Int) (w' : World) : Prop :=
  match x with
  | Sum.inl i => v = .slice none 0 0 ∧ E = 3 ∧ A = i
  | Sum.inr ts => w'.ownsRow w.heap.size 38 4 v ts.length (tkCs ts) ∧ E = 0 ∧ A = 0

theorem tok_len (s : ByteArray) (k : Nat) (h : k < s.size) : (D s k).length = s.size - k := by unfold D; rw [List.length_drop, len_data]
theorem lex_bad (s : ByteArray) (k : Nat) (h : k < s.size) (hs : Stands s k) (ht : tokL (D s k) = none) : lexL (D s k) k = .bad k := by
  have hd := drop_at s k h
  rw [show D s k = s[k] :: D s (k + 1) from hd] at ht ⊢
  exact lexL_bad k (hs h).1 (hs h).2 ht
theorem lex_tok (s : ByteArray) (k : Nat) (h : k < s.size) (hs : Stands s k) {t : Tw} (ht : tokL (D s k) = some t) : 0 < t.w ∧ k + t.w ≤ s.size ∧ lexL (D s k) k = (lexL (D s (k + t.w)) (k + t.w)).pre [t.at k] := by
  have hp := tokL_pos ht
  rw [tok_len s k h] at hp
  refine ⟨hp.1, by omega, ?_⟩
  have hd := drop_at s k h
  have ht' := ht
  rw [show D s k = s[k] :: D s (k + 1) from hd] at ht ⊢
  rw [lexL_tok k (hs h).1 (hs h).2 ht, ← show D s k = s[k] :: D s (k + 1) from hd]
  unfold D
  rw [List.drop_drop]

theorem own_agree {w w' : World} {base n size : Nat} {e : TypeId} {v : Value} {xs : List Value} (h : w.ownsRow base e size v n xs) (hb : ∀ q, v.ownBlock = some q → w'.heap[q]? = w.heap[q]?) : w'.ownsRow base e size v n xs := by
  obtain ⟨h1, h2 | ⟨q, cap, cur, rfl, hb', hq, r⟩⟩ := h
  · exact ⟨h1, .inl h2⟩
  · exact ⟨h1, .inr ⟨q, cap, cur, rfl, hb', (hb q rfl).trans hq, r⟩⟩
theorem own_step {wr w1 w2 : World} {base n size : Nat} {e : TypeId} {v : Value} {xs : List Value} {o o2 : Obj} (ho : wr.ownsRow base e size v n xs) (h1 : Below wr.heap.size wr w1) (h2 : Below (w1.alloc o).heap.size (w1.alloc o) w2) (c : Value) :
    ((w2.setCell ⟨w1.heap.size, 2, none⟩ c).alloc o2).ownsRow base e size v n xs :=
  own_agree ho fun q hq => by
    have hlt := (ho.lt q hq).2
    have h3 := h1.size
    have h4 := h2.size
    have h5 : w1.heap.size < (w1.alloc o).heap.size := by simp
    have h6 : (w2.setCell ⟨w1.heap.size, 2, none⟩ c).heap.size = w2.heap.size := by simp [World.setCell]
    exact (Below.heap_alloc _ o2 q (by omega)).trans ((Below.heap_setCell w2 ⟨w1.heap.size, 2, none⟩ c q (by show q ≠ w1.heap.size; omega)).trans ((h2.block q (by omega)).trans ((Below.heap_alloc w1 o q (by omega)).trans (h1.block q hlt))))
theorem below_step {w wr w1 w2 : World} {o o2 : Obj} (h0 : Below w.heap.size w wr) (h1 : Below wr.heap.size wr w1) (h2 : Below (w1.alloc o).heap.size (w1.alloc o) w2) (c : Value) :
    Below w.heap.size w ((w2.setCell ⟨w1.heap.size, 2, none⟩ c).alloc o2) := by
  have h3 := h0.size
  have h4 := h1.size
  have h5 := h2.size
  have h6 : (w1.alloc o).heap.size = w1.heap.size + 1 := by simp
  have h7 : (w2.setCell ⟨w1.heap.size, 2, none⟩ c).heap.size = w2.heap.size := by simp [World.setCell]
  have a1 : Below w.heap.size w w1 := h0.trans (h1.mono h3)
  have a2 : Below w.heap.size w w2 := (a1.alloc (by omega) o).trans (h2.mono (by omega))
  exact (a2.setCell (p := ⟨w1.heap.size, 2, none⟩) (by show w.heap.size ≤ w1.heap.size; omega) c).alloc (by omega) o2
theorem news_of {w : World} {t : TypeId} {cs : List Value} {H : Nat} (hH : w.heap.size = H) : ∀ j u, cs[j]? = some u → (w.alloc (.cells cs.toArray t)).cell? ((⟨H, 0, none⟩ : Addr).add j) = some u := fun j u hu => by
  rw [Addr.add_lit, Nat.zero_add, ← hH, (Box.new w t cs).cell j]; exact hu
theorem tkC_one (t : Tk) : ∀ u ∈ tkC t, u.oneCell' = true := by
  intro u hu; simp [tkC] at hu; rcases hu with rfl | rfl | rfl | rfl <;> rfl
theorem tokL_len {l : By} {t : Tw} (h : tokL l = some t) : t.s.length ≤ t.w := by
  cases l with
  | nil => cases h
  | cons b r =>
    rw [tokL_cons] at h
    split at h
    · split at h
      · cases h
      · cases h; exact Nat.le_refl _
    · split at h
      · split at h
        · cases h
        · cases h; exact Nat.zero_le _
      · split at h
        · cases h; exact Nat.le_refl _
        · split at h
          · cases h; exact Nat.le_refl _
          · cases h

set_option maxRecDepth 100000 in
set_option maxHeartbeats 4000000 in
theorem t_lex (s : ByteArray) (w : World) (hs : s.size ≤ 65536) :
    Calls Try.prog 10 #[.string s] w fun e w' => ∃ v E A, e = .returned (.tuple #[v, .int .i64 E, .int .i64 A]) ∧ LexOut w (lexL s.data.toList 0) v E A w' ∧ Below w.heap.size w w' := by
  obtain ⟨i0, hi0, hz0, hz1, hz2⟩ := info_parts Try.tokInfo
  have hs6 : s.size ≤ 1000000 := by omega
  go_enter Try.func10, Try.ntmps10
  go_wp2_with (go_at_call 20; refine (t_skip s 0 _ hs6 (Nat.zero_le _)).mono ?_; rintro e w' ⟨k0, rfl, _, hk0, hl0, hst0, hw⟩; have hw := hw.symm; subst hw)
  go_loopw [2, 4] (fun v i wr => ∃ (k : Nat) (ts : List Tk), k ≤ s.size ∧ i = .int .i64 (k : Int) ∧ ts.length ≤ k ∧ wr.ownsRow w.heap.size 38 4 v ts.length (tkCs ts) ∧ lexL s.data.toList 0 = (lexL (D s k) k).pre ts ∧ Stands s k ∧ Below w.heap.size w wr) (fun _ i _ => s.size - (intOf i).toNat)
  case atStart => exact ⟨k0, [], hk0, rfl, Nat.zero_le _, World.ownsRow_nil _ _ _ _, by rw [Lx.pre_nil]; exact hl0, hst0, Below.refl _ _⟩
  case round =>
    obtain ⟨k, ts, hk, rfl, hn, ho, hr, hst, hbw⟩ := hrel
    clear hl0 hst0 hk0
    have HR := Lib.hid hr
    have HO := Lib.hid ho
    have HST := Lib.hid hst
    have HBW := Lib.hid hbw
    clear hr ho hst hbw
    by_cases hlt : k < s.size
    · obtain ⟨x, hx⟩ : ∃ x, s.extract k s.size = x := ⟨_, rfl⟩
      have hxd : x.data.toList = D s k := by rw [← hx]; exact ext_from s k
      have hxs : x.size = s.size - k := by rw [← len_data, hxd, tok_len s k hlt]
      have T : ∀ W, Sem.run Try.prog (Instr.slice 9 (.string s) (some (.int .i64 (k : Int))) none none) W = .ok (.string x) W := fun W => by
        have h := run_slice_string_from_if (P := Try.prog) W 9 s .i64 (k : Int) Try.underlying9
        rw [if_pos (by omega), show ((k : Nat) : Int).toNat = k from rfl, hx] at h
        exact h
      have HX := Lib.hid (And.intro (show x.size ≤ 1000000 by omega) (show 0 < x.size by omega))
      obtain ⟨o, ho⟩ : ∃ o, tokL (D s k) = o := ⟨_, rfl⟩
      have HT := Lib.hid (show tokL x.data.toList = o by rw [hxd]; exact ho)
      have HTO := Lib.hid ho
      clear hx hxd hxs ho
      cases o with
      | none =>
        go_wp2_with (go_at_call 21; refine (t_token x _ HX.out.1 HX.out.2).mono ?_; rw [HT.out]; rintro e w1 ⟨rfl, hb1⟩; unfold twOf noTok twV tokV)
        refine bodyPost_ret (v := .tuple #[.slice none 0 0, .int .i64 3, .int .i64 (k : Int)]) (by simp only [results, Try.results10]; go_simp) rfl ?_
        refine ⟨_, _, _, rfl, ?_, ((HBW.out.trans (hb1.mono HBW.out.size)).alloc (Nat.le_trans HBW.out.size hb1.size) _)⟩
        rw [HR.out, lex_bad s k hlt HST.out HTO.out]
        exact ⟨rfl, rfl, rfl⟩
      | some t =>
        have ht := lex_tok s k hlt HST.out HTO.out
        have htl := tokL_len HTO.out
        have ht1 := ht.1
        have ht2 := ht.2.1
        have HL := Lib.hid ht.2.2
        have e0 : ((t.w : Int) == 0) = false := by simp; omega
        have HZ := Lib.hid (show (strB t.s).size ≤ 1000000 by rw [strB_size]; omega)
        clear ht htl
        go_wp2_with (first
          | (go_at_call 21; refine (t_token x _ HX.out.1 HX.out.2).mono ?_; rw [HT.out]; rintro e w1 ⟨rfl, hb1⟩; unfold twOf twV tokV; have hq1 := Lib.hid hb1; clear hb1)
          | (go_at_call 22; refine (s_clone _ _ HZ.out).mono ?_; rintro e w2 ⟨rfl, hb2⟩; have hq2 := Lib.hid hb2; have bx2 := (Box.new w1 38 [.int .i64 (t.k : Int), .int .i64 (k : Int), .string (strB t.s), .int .i64 (t.n : Int)]).below hb2; clear hb2; have hw2 := bx2.lt; obtain ⟨_, _, _, _, _, _, _, _⟩ := bx2.fourb)
          | (at_builtin; refine wpList_append_lies _ rfl _ _ 23 rfl w.heap.size 38 i0 (.agg #[.int .i64 0, .int .i64 0, .string ⟨#[]⟩, .int .i64 0]) 4 40 Try.underlying23 hi0 hz0 hz1 hz2 rfl (by decide) _ ts.length (tkCs ts) rfl (own_step HO.out hq1.out hq2.out _) ⟨w2.heap.size, 0, none⟩ 1 1 (tkC (t.at k)) rfl rfl (news_of (cs := tkC (t.at k)) (by simp [World.setCell])) (tkC_one _) (by decide) ?c3 ?c4 (below_step HBW.out hq1.out hq2.out _).size _ rfl ?_))
        case c3 => unfold maxLen; omega
        case c4 => omega
        intro g cap w9 hown9 hgrow hat hlt9
        have hB9 : Below w.heap.size w w9 := (below_step HBW.out hq1.out hq2.out _).grown hgrow (below_step HBW.out hq1.out hq2.out _).size (fun q hq => (HO.out.lt q hq).1)
        rw [← tkCs_snoc] at hown9
        have HL9 : Hid (lexL s.data.toList 0 = (lexL (D s (k + t.w)) (k + t.w)).pre (ts ++ [t.at k])) := by show _ = _; rw [HR.out, HL.out, Lx.pre_pre]
        clear hgrow hat
        go_wp2_with (go_at_call 20; refine (t_skip s (k + t.w) _ hs6 ht2).mono ?_; rintro e w' ⟨k9, rfl, hk9, hk9', hl9, hst9, hw⟩; have hw := hw.symm; subst hw)
        go_roundw
        case rel => exact ⟨k9, ts ++ [t.at k], hk9', rfl, by simp; omega, by simpa using hown9, by rw [HL9.out, hl9], hst9, hB9⟩
        case measure => simp [intOf]; omega
    · go_wp2
      refine bodyPost_ret (v := .tuple #[_, .int .i64 0, .int .i64 0]) (by simp only [results, Try.results10]; go_simp; rfl) rfl ?_
      refine ⟨_, _, _, rfl, ?_, HBW.out⟩
      have hkk : k = s.size := by omega
      rw [HR.out, show lexL (D s k) k = .ok [] by unfold D; rw [List.drop_of_length_le (by simp; omega)]; rfl]
      refine ⟨?_, rfl, rfl⟩
      rw [List.append_nil]
      exact HO.out

end Go.Proofs.Ytdhkcbkeehameaa
