/- Contract of the document's Lex. -/
import Derived.Test.YtgkeblpjmfdhkaaZAM
import Derived.Test.YtgkeblpjmfdhkaaLexnM
import Derived.Deep.CutRange
import Derived.Deep.CutBlock
import Derived.Laws.DeepStrings4
namespace Go.Proofs.Ytgkeblpjmfdhkaa
open Go.RowKit
set_option linter.unusedVariables false
set_option linter.unusedSimpArgs false

/-- What stands behind the document's switch: the token's cells, and where it ends. -/
def RCut (wr wx : World) (k : Nat) (o : Option Tw) (v : Value) : Prop :=
  Below wr.heap.size wr wx ∧ match o with
  | none => ∃ S N K, v = .int .i64 K ∧ Box wx wr.heap.size 103 [.int .i64 0, .int .i64 (k : Int), .string S, .int .i64 N]
  | some t => v = .int .i64 ((k + t.w : Nat) : Int) ∧ Box wx wr.heap.size 103 (tkC (t.at k))

theorem blank3 {c : Nat} (h : blaN c = true) : c = 32 ∨ c = 9 ∨ c = 10 := by simpa [blaN, or_assoc] using h
theorem noblank {c : Nat} (h : blaN c = false) : ((c : Int) == 32) = false ∧ ((c : Int) == 9) = false ∧ ((c : Int) == 10) = false := by
  simp [blaN] at h; simp; omega

theorem rowL_split (p : Nat → Bool) : ∀ (l : By) (b : UInt8) (r : By), l.drop (rowL p l).length = b :: r → p b.toNat = false
  | [], b, r, h => by simp at h
  | c :: t, b, r, h => by
    by_cases hc : p c.toNat = true
    · rw [rowL_yes hc, List.length_cons, List.drop_succ_cons] at h
      exact rowL_split p t b r h
    · rw [rowL_no hc] at h
      simp at h
      obtain ⟨rfl, rfl⟩ := h
      simpa using hc
theorem row_end (p : Nat → Bool) (s : ByteArray) (k e : Nat) (he : k + (rowL p (D s k)).length = e) (h : e < s.size) : p s[e].toNat = false := by
  refine rowL_split p (D s k) s[e] (D s (e + 1)) ?_
  unfold D at *
  rw [List.drop_drop, he]
  exact drop_at s e h
theorem row_in (p : Nat → Bool) (s : ByteArray) (k q : Nat) (hk : k ≤ q) (hq : q < k + (rowL p (D s k)).length) (h : q < s.size) : p s[q].toNat = true := by
  have h1 := List.all_eq_true.1 (rowL_all_p p (D s k))
  have h2 : q - k < (rowL p (D s k)).length := by omega
  have h3 : (rowL p (D s k))[q - k]'h2 = s[q] := by
    have e1 : (rowL p (D s k))[q - k]? = some s[q] := by
      rw [rowL_take p (D s k), List.getElem?_take, if_pos h2]
      unfold D
      rw [List.getElem?_drop, show k + (q - k) = q by omega]
      have := drop_at s q h
      have h4 : (s.data.toList.drop q)[0]? = some s[q] := by rw [this]; rfl
      rwa [List.getElem?_drop, Nat.add_zero] at h4
    rw [List.getElem?_eq_getElem h2] at e1
    exact Option.some.inj e1
  rw [← h3]
  exact h1 _ (List.getElem_mem h2)
theorem row_to (p : Nat → Bool) (s : ByteArray) (k : Nat) (h : k ≤ s.size) : k + (rowL p (D s k)).length ≤ s.size := by
  have := rowL_le p (D s k)
  unfold D at *
  rw [List.length_drop, len_data] at this
  omega
theorem ext_row2 (p : Nat → Bool) (s : ByteArray) (k e : Nat) (he : k + (rowL p (D s k)).length = e) : (s.extract k e).data.toList = rowL p (D s k) := by
  rw [ext_data, show e - k = (rowL p (D s k)).length by omega, ← rowL_take]
theorem head_at (s : ByteArray) (k : Nat) (h : k < s.size) : (D s k).head? = some s[k] := by unfold D; rw [drop_at s k h]; rfl
theorem head_no (s : ByteArray) (k : Nat) (h : ¬ k < s.size) : (D s k).head? = none := by unfold D; rw [List.drop_of_length_le (by simp; omega)]; rfl
theorem word_row {l : By} (h : wordB l = true) : rowB l = true := by
  rw [wordB_or] at h
  simp only [Bool.or_eq_true, beq_iff_eq] at h
  rcases h with h | h | h | h | h | h | h | h | h | h <;> subst h <;> decide
theorem kindL_word {l : By} (h : wordB l = true) : kindL l = 4 := by
  unfold kindL; rw [if_neg (by rw [word_row h]; simp), if_pos h]
theorem kindL_cases (l : By) (hw : wordB l = false) : kindL l = if nameL l then 1 else if conL l then 2 else 0 := by
  unfold nameL conL kindL
  rw [hw]
  cases rowB l <;> cases lowN (l.headD 0).toNat <;> cases uppN (l.headD 0).toNat <;> rfl
theorem dcons (s : ByteArray) (k : Nat) (h : k < s.size) : D s k = s[k] :: D s (k + 1) := drop_at s k h
theorem tok_let (s : ByteArray) (k : Nat) (h : k < s.size) (hl : letN s[k].toNat = true) : tokL (D s k) = if kindL (rowL resN (D s k)) = 0 then none else some ⟨kindL (rowL resN (D s k)), rowL resN (D s k), 0, (rowL resN (D s k)).length⟩ := by
  rw [dcons s k h, tokL_cons, if_pos hl]
theorem tok_dig (s : ByteArray) (k : Nat) (h : k < s.size) (hl : letN s[k].toNat = false) (hd : digN s[k].toNat = true) (x : ByteArray) (hx : x.data.toList = rowL digN (D s k)) :
    tokL (D s k) = if badInt x then none else some ⟨3, [], numL (rowL digN (D s k)), (rowL digN (D s k)).length⟩ := by
  have hxs : x.size = (rowL digN (D s k)).length := by rw [← hx, len_data]
  have hx0 : (x.data.toList.headD 0).toNat = s[k].toNat := by
    rw [hx, dcons s k h, rowL_yes hd]; rfl
  have e : tokL (D s k) = if (1 < (rowL digN (D s k)).length ∧ s[k].toNat = 48) ∨ 2147483647 < numL (rowL digN (D s k)) then none else some ⟨3, [], numL (rowL digN (D s k)), (rowL digN (D s k)).length⟩ := by
    conv => lhs; rw [dcons s k h]
    rw [tokL_cons, if_neg (by rw [hl]; simp), if_pos hd, ← dcons s k h]
  have hb : badInt x ↔ (1 < (rowL digN (D s k)).length ∧ s[k].toNat = 48) ∨ 2147483647 < numL (rowL digN (D s k)) := by
    unfold badInt; rw [hx0, hxs, hx]
  rw [e]
  by_cases hc : badInt x
  · rw [if_pos hc, if_pos (hb.1 hc)]
  · rw [if_neg hc, if_neg (fun h => hc (hb.2 h))]
theorem tok_sig (s : ByteArray) (k : Nat) (h : k < s.size) (hl : letN s[k].toNat = false) (hd : digN s[k].toNat = false) (hg : sigN s[k].toNat = true) : tokL (D s k) = some ⟨5, [s[k]], 0, 1⟩ := by
  rw [dcons s k h, tokL_cons, if_neg (by rw [hl]; simp), if_neg (by rw [hd]; simp), if_pos hg]
theorem tok_oth (s : ByteArray) (k : Nat) (h : k < s.size) (hl : letN s[k].toNat = false) (hd : digN s[k].toNat = false) (hg : sigN s[k].toNat = false) : tokL (D s k) = if s[k].toNat = 45 ∧ (D s (k + 1)).head? = some 62 then some ⟨5, [45, 62], 0, 2⟩ else none := by
  rw [dcons s k h, tokL_cons, if_neg (by rw [hl]; simp), if_neg (by rw [hd]; simp), if_neg (by rw [hg]; simp)]
theorem own_base {w : World} {b b' size n : Nat} {e : TypeId} {v : Value} {xs : List Value} (h : w.ownsRow b e size v n xs) (hb : b' ≤ b) : w.ownsRow b' e size v n xs := by
  obtain ⟨h1, h2 | ⟨q, cap, cur, rfl, hb', r⟩⟩ := h
  · exact ⟨h1, .inl h2⟩
  · exact ⟨h1, .inr ⟨q, cap, cur, rfl, Nat.le_trans hb hb', r⟩⟩
theorem own_shape3 {w : World} {b size n : Nat} {e : TypeId} {v : Value} {xs : List Value} (h : w.ownsRow b e size v n xs) : ∃ a m c, v = .slice a m c := by
  obtain ⟨_, ⟨rfl, _⟩ | ⟨q, cap, cur, rfl, _⟩⟩ := h
  · exact ⟨_, _, _, rfl⟩
  · exact ⟨_, _, _, rfl⟩
theorem sig9 {c : Nat} (h : sigN c = true) : c = 92 ∨ c = 61 ∨ c = 59 ∨ c = 124 ∨ c = 40 ∨ c = 41 ∨ c = 44 ∨ c = 123 ∨ c = 125 := by simpa [sigN, or_assoc] using h
theorem nosig {c : Nat} (h : sigN c = false) : ((c : Int) == 92) = false ∧ ((c : Int) == 61) = false ∧ ((c : Int) == 59) = false ∧ ((c : Int) == 124) = false ∧ ((c : Int) == 40) = false ∧ ((c : Int) == 41) = false ∧ ((c : Int) == 44) = false ∧ ((c : Int) == 123) = false ∧ ((c : Int) == 125) = false := by
  simp [sigN] at h; simp; omega

theorem letN_res {c : Nat} (h : letN c = true) : resN c = true := by unfold letN at h; unfold resN; rw [h]; rfl
theorem box_tok (wr : World) (k : Nat) (a n : Int) (x : ByteArray) : Box (wr.alloc (.cells #[.int .i64 a, .int .i64 (k : Int), .string x, .int .i64 n] 103)) wr.heap.size 103 [.int .i64 a, .int .i64 (k : Int), .string x, .int .i64 n] := Box.new wr 103 [.int .i64 a, .int .i64 (k : Int), .string x, .int .i64 n]
theorem below_tok (wr : World) (o : Obj) : Below wr.heap.size wr (wr.alloc o) := (Below.refl _ _).alloc (Nat.le_refl _) _
theorem cut_let (s : ByteArray) (k : Nat) (h : k < s.size) (hz : letN s[k].toNat = true) (e : Nat) (he : k + (rowL resN (D s k)).length = e) (x : ByteArray) (hx : x.data.toList = rowL resN (D s k)) (hxs : x.size = (rowL resN (D s k)).length) (wr : World) (o : Option Tw) (ho : tokL (D s k) = o) (n : Nat) (hn : kindL x.data.toList = n) :
    RCut wr (wr.alloc (.cells #[.int .i64 (n : Int), .int .i64 (k : Int), .string x, .int .i64 0] 103)) k o (.int .i64 (e : Int)) := by
  refine ⟨below_tok _ _, ?_⟩
  rw [tok_let s k h hz, ← hx, hn] at ho
  subst ho
  by_cases h0 : n = 0
  · subst h0
    rw [if_pos rfl]
    exact ⟨_, _, _, rfl, box_tok wr k 0 0 x⟩
  · rw [if_neg h0]
    refine ⟨by rw [hx, he], ?_⟩
    have := box_tok wr k n 0 x
    rw [eq_strB (s := x) rfl] at this
    exact this
theorem cut_dig0 (s : ByteArray) (k : Nat) (h : k < s.size) (hz : letN s[k].toNat = false) (hd : digN s[k].toNat = true) (e : Nat) (x : ByteArray) (hx : x.data.toList = rowL digN (D s k)) (wr : World) (o : Option Tw) (ho : tokL (D s k) = o) (hb : badInt x) :
    RCut wr (wr.alloc (.cells #[.int .i64 0, .int .i64 (k : Int), .string ⟨#[]⟩, .int .i64 (-1)] 103)) k o (.int .i64 (e : Int)) := by
  refine ⟨below_tok _ _, ?_⟩
  rw [tok_dig s k h hz hd x hx, if_pos hb] at ho
  subst ho
  exact ⟨_, _, _, rfl, box_tok wr k 0 (-1) ⟨#[]⟩⟩
theorem cut_dig1 (s : ByteArray) (k : Nat) (h : k < s.size) (hz : letN s[k].toNat = false) (hd : digN s[k].toNat = true) (e : Nat) (he : k + (rowL digN (D s k)).length = e) (x : ByteArray) (hx : x.data.toList = rowL digN (D s k)) (wr : World) (o : Option Tw) (ho : tokL (D s k) = o) (hb : ¬ badInt x) (m : Nat) (hm : numL x.data.toList = m) :
    RCut wr (wr.alloc (.cells #[.int .i64 3, .int .i64 (k : Int), .string ⟨#[]⟩, .int .i64 (m : Int)] 103)) k o (.int .i64 (e : Int)) := by
  refine ⟨below_tok _ _, ?_⟩
  rw [tok_dig s k h hz hd x hx, if_neg hb, ← hx, hm] at ho
  subst ho
  refine ⟨by rw [hx, he], box_tok wr k 3 m ⟨#[]⟩⟩
theorem cut_arrow (s : ByteArray) (k : Nat) (h : k < s.size) (hz : letN s[k].toNat = false) (hd : digN s[k].toNat = false) (hg : s[k].toNat = 45 ∧ (D s (k + 1)).head? = some 62) (wr : World) (o : Option Tw) (ho : tokL (D s k) = o) :
    RCut wr (wr.alloc (.cells #[.int .i64 5, .int .i64 (k : Int), .string ⟨#[45, 62]⟩, .int .i64 0] 103)) k o (.int .i64 ((k : Int) + 2)) := by
  refine ⟨below_tok _ _, ?_⟩
  rw [tok_oth s k h hz hd (by rw [hg.1]; rfl), if_pos hg] at ho
  subst ho
  exact ⟨by simp, box_tok wr k 5 0 ⟨#[45, 62]⟩⟩
theorem cut_sig (s : ByteArray) (k : Nat) (h : k < s.size) (hz : letN s[k].toNat = false) (hd : digN s[k].toNat = false) (hg : sigN s[k].toNat = true) (x : ByteArray) (hx : s.extract k (k + 1) = x) (wr : World) (o : Option Tw) (ho : tokL (D s k) = o) :
    RCut wr (wr.alloc (.cells #[.int .i64 5, .int .i64 (k : Int), .string x, .int .i64 0] 103)) k o (.int .i64 ((k : Int) + 1)) := by
  refine ⟨below_tok _ _, ?_⟩
  rw [tok_sig s k h hz hd hg] at ho
  subst ho
  have hxd : x.data.toList = [s[k]] := by
    rw [← hx, ext_data, show k + 1 - k = 1 by omega]
    have := dcons s k h
    unfold D at this
    rw [this]; rfl
  have hxe := eq_strB hxd
  subst hxe
  exact ⟨by simp, box_tok wr k 5 0 _⟩
theorem cut_none (s : ByteArray) (k : Nat) (h : k < s.size) (hz : letN s[k].toNat = false) (hd : digN s[k].toNat = false) (hg : sigN s[k].toNat = false) (ha : ¬ (s[k].toNat = 45 ∧ (D s (k + 1)).head? = some 62)) (wr : World) (o : Option Tw) (ho : tokL (D s k) = o) :
    RCut wr (wr.alloc (.cells #[.int .i64 0, .int .i64 (k : Int), .string ⟨#[]⟩, .int .i64 0] 103)) k o (.int .i64 (k : Int)) := by
  refine ⟨below_tok _ _, ?_⟩
  rw [tok_oth s k h hz hd hg, if_neg ha] at ho
  subst ho
  exact ⟨_, _, _, rfl, box_tok wr k 0 0 ⟨#[]⟩⟩
theorem tok_kind {l : By} {t : Tw} (h : tokL l = some t) : 0 < t.k := by
  cases l with
  | nil => cases h
  | cons b r =>
    rw [tokL_cons] at h
    split at h
    · split at h
      · cases h
      · cases h; show 0 < kindL _; omega
    · split at h
      · split at h
        · cases h
        · cases h; show 0 < 3; omega
      · split at h
        · cases h; show 0 < 5; omega
        · split at h
          · cases h; show 0 < 5; omega
          · cases h

set_option maxRecDepth 100000 in
set_option maxHeartbeats 4000000 in
theorem rt_lex (s : ByteArray) (w : World) (hs : s.size ≤ 65536) :
    Calls Try.prog 49 #[.string s] w fun e w' => ∃ v E A, e = .returned (.agg #[v, .int .i64 E, .int .i64 A]) ∧ LexOut w (lexL s.data.toList 0) v E A w' ∧ Below w.heap.size w w' := by
  obtain ⟨i0, hi0, hz0, hz1, hz2⟩ := info_parts Try.tokInfo
  have hs6 : s.size ≤ 1000000 := by omega
  have hsm : s.size ≤ maxLen := by unfold maxLen; omega
  go_enter Try.func49, Try.ntmps49
  go_wp2_with fail
  have HB0 : Hid (Box ((w.alloc (.cells #[.slice none 0 0, .int .i64 0, .int .i64 0] 96)).alloc (.cells #[.slice none 0 0, .int .i64 0, .int .i64 0] 96)) w.heap.size 96 [.slice none 0 0, .int .i64 0, .int .i64 0]) := (Box.new w 96 [.slice none 0 0, .int .i64 0, .int .i64 0]).alloc _
  have HB1 : Hid (Box ((w.alloc (.cells #[.slice none 0 0, .int .i64 0, .int .i64 0] 96)).alloc (.cells #[.slice none 0 0, .int .i64 0, .int .i64 0] 96)) (w.heap.size + 1) 96 [.slice none 0 0, .int .i64 0, .int .i64 0]) := by
    have := Box.new (w.alloc (.cells #[.slice none 0 0, .int .i64 0, .int .i64 0] 96)) 96 [.slice none 0 0, .int .i64 0, .int .i64 0]
    rwa [World.size_alloc] at this
  have HBW : Hid (Below w.heap.size w ((w.alloc (.cells #[.slice none 0 0, .int .i64 0, .int .i64 0] 96)).alloc (.cells #[.slice none 0 0, .int .i64 0, .int .i64 0] 96))) := by
    show Below _ _ _
    go_grown
  generalize ((w.alloc (.cells #[.slice none 0 0, .int .i64 0, .int .i64 0] 96)).alloc (.cells #[.slice none 0 0, .int .i64 0, .int .i64 0] 96)) = w0 at *
  go_loopg [4] (s.size) (fun gn i wr => ∃ (k : Nat) (ts : List Tk) (v : Value), gn + k ≤ s.size ∧ s.size ≤ gn + k ∧ i = .int .i64 (k : Int) ∧ Hid (ts.length ≤ k) ∧ Hid (wr.ownsRow (w.heap.size + 2) 103 4 v ts.length (tkCs ts)) ∧ Hid (lexL s.data.toList 0 = (lexL (D s k) k).pre ts) ∧ Hid (Box wr w.heap.size 96 [.slice none 0 0, .int .i64 0, .int .i64 0]) ∧ Hid (Box wr (w.heap.size + 1) 96 [v, .int .i64 0, .int .i64 0]) ∧ Hid (Below w.heap.size w wr))
  case atStart => exact ⟨0, [], .slice none 0 0, by omega, by omega, rfl, Nat.zero_le _, World.ownsRow_nil _ _ _ _, by show _ = _; rw [Lx.pre_nil]; rfl, HB0.out, HB1.out, HBW.out⟩
  case round =>
    clear HB0 HB1 HBW
    obtain ⟨k, ts, v, hg1, hg2, rfl, HN, HO, HR, HB0, HB1, HBW⟩ := hrel
    by_cases hlt : k < s.size
    · have hb : s[k].toNat ≤ 255 := byte_le _
      cases hl : blaN s[k].toNat
      · obtain ⟨e32, e9, e10⟩ := noblank hl
        by_cases hrm : s[k].toNat = 45 ∧ (D s (k + 1)).head? = some 45
        · as_aux_lemma =>
          obtain ⟨h45, hh⟩ := hrm
          have h1 : k + 1 < s.size := by
            by_cases h : k + 1 < s.size
            · exact h
            · rw [head_no s (k + 1) h] at hh; cases hh
          have h46 : s[k + 1].toNat = 45 := by
            rw [head_at s (k + 1) h1] at hh
            rw [Option.some.inj hh]; rfl
          obtain ⟨m, hm⟩ : ∃ m, (rowL noNl (D s k)).length = m := ⟨_, rfl⟩
          obtain ⟨hm0, hms, hle⟩ := lex_rem s k hlt ⟨h45, hh⟩ m hm
          have HL := Lib.hid hle
          obtain ⟨e, he⟩ : ∃ e, k + (rowL noNl (D s k)).length = e := ⟨_, rfl⟩
          have HE := Lib.hid he
          have hes : e = k + m := by omega
          have hek : k < e := by rw [hes]; omega
          have hes2 : e ≤ s.size := by omega
          subst hes
          have HM := Lib.hid hm
          clear hle hm he hh
          have f1 : ((s[k].toNat : Int) == 45) = true := by rw [h45]; rfl
          have f2 : ((s[k + 1].toNat : Int) == 45) = true := by rw [h46]; rfl
          clear h45 h46
          obtain ⟨e, he⟩ : ∃ e, k + m = e := ⟨_, rfl⟩
          rw [he] at HE HL hek hes2
          have hme : k + m ≤ e := by omega
          clear he hms
          go_wp2_with fail
          go_loopg [4] (e - k) (fun gn i wx => ∃ q : Nat, gn + q ≤ e ∧ e ≤ gn + q ∧ k ≤ q ∧ i = .int .i64 (q : Int) ∧ wr = wx)
          case atStart => exact ⟨k, by omega, by omega, Nat.le_refl _, rfl, rfl⟩
          case round =>
            obtain ⟨q, hq1, hq2, hkq, rfl, rfl⟩ := hrel
            by_cases hqe : q < e
            · have hqs : q < s.size := by omega
              have hp := row_in noNl s k q hkq (by rw [HE.out]; exact hqe) hqs
              have hp2 : s[q].toNat ≠ 10 := by simpa [noNl] using hp
              have f3 : ((s[q].toNat : Int) != 10) = true := by simp; omega
              clear hp hp2
              go_wp2_with fail
              go_roundg (e - (q + 1))
              case measure => omega
              case rel => exact ⟨q + 1, by omega, by omega, by omega, by go_num, rfl⟩
            · obtain rfl : q = e := by omega
              by_cases hqs : q < s.size
              · have hp := row_end noNl s k q HE.out hqs
                have hp2 : s[q].toNat = 10 := by simpa [noNl] using hp
                have f3 : ((s[q].toNat : Int) != 10) = false := by simp; omega
                clear hp hp2
                go_wp2_with fail
                go_roundg (s.size - q)
                case measure => omega
                case rel => exact ⟨q, ts, v, by omega, by omega, by go_num, Nat.le_trans HN.out hkq, HO.out, by show _ = _; rw [HR.out, HL.out], HB0.out, HB1.out, HBW.out⟩
              · go_wp2_with fail
                go_roundg (s.size - q)
                case measure => omega
                case rel => exact ⟨q, ts, v, by omega, by omega, by go_num, Nat.le_trans HN.out hkq, HO.out, by show _ = _; rw [HR.out, HL.out], HB0.out, HB1.out, HBW.out⟩
        · have HRM := Lib.hid hrm
          have HST : Hid (Stands s k) := fun _ => ⟨hl, hrm⟩
          clear hrm
          obtain ⟨av, nv, cv, rfl⟩ := own_shape3 HO.out
          obtain ⟨o, hto⟩ : ∃ o, tokL (D s k) = o := ⟨_, rfl⟩
          have HTO := Lib.hid hto
          clear hto
          have hz1' := hz1

          have h9 : ∀ (h1 : k + 1 < s.size), s[k].toNat = 45 → ((s[k + 1].toNat : Int) == 45) = false := fun h1 h => by
            have h2 : s[k + 1].toNat ≠ 45 := fun h3 => HRM.out ⟨h, by rw [head_at s (k + 1) h1, dash_of h3]⟩
            simp; omega
          have H9 := Lib.hid h9
          clear h9
          go_upto_region 9 with fail
          go_cut [46] from 12 to 201 (fun c wx => c = .bool false ∧ wr = wx)
          case first =>
            by_cases h45 : s[k].toNat = 45
            · by_cases h1 : k + 1 < s.size
              · have f2 := H9.out h1 h45
                have f1 : ((s[k].toNat : Int) == 45) = true := by rw [h45]; rfl
                clear h45
                go_wp2_with fail
                go_meet
                exact ⟨rfl, rfl⟩
              · have f1 : ((s[k].toNat : Int) == 45) = true := by rw [h45]; rfl
                clear h45
                go_wp2_with fail
                go_meet
                exact ⟨rfl, rfl⟩
            · have f1 : ((s[k].toNat : Int) == 45) = false := by simp; omega
              go_wp2_with fail
              go_meet
              exact ⟨rfl, rfl⟩
          case rest =>
          obtain ⟨rfl, rfl⟩ := hcut

          go_upto_block 4 with fail
          go_cut [7] from 12 to 201 (fun kk wx => RCut wr wx k o kk)
          case first =>
            obtain ⟨z, hz⟩ : ∃ z, letN s[k].toNat = z := ⟨_, rfl⟩
            have HZ := Lib.hid hz
            clear hz
            go_upto_region 14 with fail
            go_cut [62] from 12 to 201 (fun c wx => c = .bool z ∧ (wr.alloc (.cells #[.int .i64 0, .int .i64 (k : Int), .string ⟨#[]⟩, .int .i64 0] 103)) = wx)
            case first =>
              obtain ⟨b1, hb1⟩ : ∃ b, lowN s[k].toNat = b := ⟨_, rfl⟩
              obtain ⟨b2, hb2⟩ : ∃ b, uppN s[k].toNat = b := ⟨_, rfl⟩
              have hzz : z = (b1 || b2) := by rw [← HZ.out, ← hb1, ← hb2]; rfl
              subst hzz
              cases b1
              all_goals
                go_wp2_with (first | (go_at_call 93; refine (r_lower _ _ hb).mono ?_; rw [hb1]; rintro e w' ⟨rfl, rfl⟩) | (go_at_call 94; refine (r_upper _ _ hb).mono ?_; rw [hb2]; rintro e w' ⟨rfl, rfl⟩))
                go_meet
                exact ⟨rfl, rfl⟩
            case rest =>
            obtain ⟨rfl, rfl⟩ := hcut
            cases z
            · obtain ⟨z1, hz1'⟩ : ∃ z, digN s[k].toNat = z := ⟨_, rfl⟩
              have HD := Lib.hid hz1'
              clear hz1'
              cases z1
              · go_upto_region 30 with (go_at_call 99; refine (r_digit _ _ hb).mono ?_; rw [HD.out]; rintro e w' ⟨rfl, rfl⟩)
                obtain ⟨z2, hz2'⟩ : ∃ z, decide (s[k].toNat = 45 ∧ (D s (k + 1)).head? = some 62) = z := ⟨_, rfl⟩
                have HZ2 := Lib.hid hz2'
                clear hz2'
                go_cut [126] from 12 to 201 (fun c wx => c = .bool z2 ∧ (wr.alloc (.cells #[.int .i64 0, .int .i64 (k : Int), .string ⟨#[]⟩, .int .i64 0] 103)) = wx)
                case first =>
                  by_cases h45 : s[k].toNat = 45
                  · by_cases h1 : k + 1 < s.size
                    · have f1 : ((s[k].toNat : Int) == 45) = true := by rw [h45]; rfl
                      have f2 : ((s[k + 1].toNat : Int) == 62) = z2 := by rw [← HZ2.out, head_at s (k + 1) h1, Bool.eq_iff_iff]; simp [h45]; exact ⟨fun h => UInt8.toNat_inj.1 (by show _ = 62; omega), fun h => by rw [h]; rfl⟩
                      clear h45
                      go_wp2_with fail
                      go_meet
                      exact ⟨rfl, rfl⟩
                    · have f1 : ((s[k].toNat : Int) == 45) = true := by rw [h45]; rfl
                      have f2 : z2 = false := by rw [← HZ2.out, head_no s (k + 1) h1]; simp
                      subst f2
                      clear h45
                      go_wp2_with fail
                      go_meet
                      exact ⟨rfl, rfl⟩
                  · have f1 : ((s[k].toNat : Int) == 45) = false := by simp; omega
                    have f2 : z2 = false := by rw [← HZ2.out]; simp [h45]
                    subst f2
                    clear h45
                    go_wp2_with fail
                    go_meet
                    exact ⟨rfl, rfl⟩
                case rest =>
                obtain ⟨rfl, rfl⟩ := hcut
                cases z2
                · as_aux_lemma =>
                  obtain ⟨z3, hz3⟩ : ∃ z, sigN s[k].toNat = z := ⟨_, rfl⟩
                  have HZ3 := Lib.hid hz3
                  clear hz3
                  go_upto_region 34 with fail
                  go_cut [147] from 12 to 201 (fun c wx => c = .bool z3 ∧ (wr.alloc (.cells #[.int .i64 0, .int .i64 (k : Int), .string ⟨#[]⟩, .int .i64 0] 103)) = wx)
                  case first =>
                    cases z3
                    · obtain ⟨_, _, _, _, _, _, _, _, _⟩ := nosig HZ3.out
                      go_wp2_with fail
                      go_meet
                      exact ⟨rfl, rfl⟩
                    · rcases sig9 HZ3.out with h | h | h | h | h | h | h | h | h
                      all_goals
                        go_wp2_with fail
                        go_meet
                        exact ⟨rfl, rfl⟩
                  case rest =>
                  obtain ⟨rfl, rfl⟩ := hcut
                  cases z3
                  · go_wp2_with fail
                    go_meet
                    exact cut_none s k hlt HZ.out HD.out HZ3.out (of_decide_eq_false HZ2.out) wr o HTO.out
                  · obtain ⟨x, hx⟩ : ∃ x, s.extract k (k + 1) = x := ⟨_, rfl⟩
                    have T : ∀ W, Sem.run Try.prog (Instr.slice 9 (.string s) (some (.int .i64 (k : Int))) (some (.int .i64 ((k : Int) + 1))) none) W = .ok (.string x) W := fun W => by
                      have h := run_slice_string_if (P := Try.prog) W 9 s .i64 .i64 (k : Int) ((k : Int) + 1) Try.underlying9
                      rw [if_pos (by omega), if_pos (by omega), show ((k : Nat) : Int).toNat = k from rfl, show ((k : Int) + 1).toNat = k + 1 by omega, hx] at h
                      exact h
                    have HX := Lib.hid hx
                    clear hx
                    go_wp2_with fail
                    go_meet
                    exact cut_sig s k hlt HZ.out HD.out HZ3.out x HX.out wr o HTO.out
                · as_aux_lemma =>
                  go_wp2_with fail
                  go_meet
                  exact cut_arrow s k hlt HZ.out HD.out (of_decide_eq_true HZ2.out) wr o HTO.out
              · as_aux_lemma =>
                obtain ⟨e, he⟩ : ∃ e, k + (rowL digN (D s k)).length = e := ⟨_, rfl⟩
                have hes := row_to digN s k (Nat.le_of_lt hlt)
                have hek : k ≤ e := by omega
                rw [he] at hes
                have HE := Lib.hid he
                clear he
                go_wp2_with (go_at_call 99; refine (r_digit _ _ hb).mono ?_; rw [HD.out]; rintro e w' ⟨rfl, rfl⟩)
                go_loopg [7] (e - k) (fun gn i wx => ∃ q : Nat, gn + q ≤ e ∧ e ≤ gn + q ∧ k ≤ q ∧ i = .int .i64 (q : Int) ∧ (wr.alloc (.cells #[.int .i64 0, .int .i64 (k : Int), .string ⟨#[]⟩, .int .i64 0] 103)) = wx)
                case atStart => exact ⟨k, by omega, by omega, Nat.le_refl _, rfl, rfl⟩
                case round =>
                  obtain ⟨q, hq1, hq2, hkq, rfl, rfl⟩ := hrel
                  by_cases hqe : q < e
                  · have hqs : q < s.size := by omega
                    have hp := row_in digN s k q hkq (by rw [HE.out]; exact hqe) hqs
                    have hbq : s[q].toNat ≤ 255 := byte_le _
                    go_wp2_with (go_at_call 99; refine (r_digit _ _ hbq).mono ?_; rw [hp]; rintro e w' ⟨rfl, rfl⟩)
                    go_roundg (e - (q + 1))
                    case measure => omega
                    case rel => exact ⟨q + 1, by omega, by omega, by omega, by go_num, rfl⟩
                  · obtain rfl : q = e := by omega
                    have hdone : (∃ h : q < s.size, digN s[q].toNat = false) ∨ ¬ q < s.size := by
                      by_cases h : q < s.size
                      · exact .inl ⟨h, row_end digN s k q HE.out h⟩
                      · exact .inr h
                    obtain ⟨x, hx⟩ : ∃ x, s.extract k q = x := ⟨_, rfl⟩
                    have hxd : x.data.toList = rowL digN (D s k) := by rw [← hx]; exact ext_row2 digN s k q HE.out
                    have hxs : x.size = (rowL digN (D s k)).length := by rw [← len_data, hxd]
                    have T : ∀ W, Sem.run Try.prog (Instr.slice 9 (.string s) (some (.int .i64 (k : Int))) (some (.int .i64 (q : Int))) none) W = .ok (.string x) W := fun W => by
                      have h := run_slice_string_if (P := Try.prog) W 9 s .i64 .i64 (k : Int) (q : Int) Try.underlying9
                      rw [if_pos (by omega), if_pos (by omega), show ((k : Nat) : Int).toNat = k from rfl, show ((q : Nat) : Int).toNat = q from rfl, hx] at h
                      exact h
                    have HX := Lib.hid (And.intro hxd hxs)
                    have hxm : x.size ≤ maxLen := by have := HE.out; unfold maxLen; omega
                    have HXM := Lib.hid hxm
                    have hk1 : k < q := by
                      have h1 : digN s[k].toNat = true := HD.out
                      have h2 : (rowL digN (D s k)).length = (rowL digN (D s (k + 1))).length + 1 := by rw [dcons s k hlt, rowL_yes h1]; rfl
                      have := HE.out
                      omega
                    clear hx hxd hxs hxm
                    rcases hdone with ⟨hqs, hf⟩ | hqs
                    · have hbq : s[q].toNat ≤ 255 := byte_le _
                      obtain ⟨V, hV⟩ : ∃ V : Int, (if badInt x then (-1 : Int) else ((numL x.data.toList : Nat) : Int)) = V := ⟨_, rfl⟩
                      have HV := Lib.hid hV
                      have HDA : Hid (x.data.toList.all (fun c => digN c.toNat) = true) := by show _ = _; rw [HX.out.1]; exact rowL_all_p _ _
                      have HDP : Hid (0 < x.size) := by show _ < _; have := HX.out.2; have := HE.out; omega
                      clear hV
                      by_cases hbi : badInt x
                      · have hV1 : V = -1 := by rw [← HV.out, if_pos hbi]
                        subst hV1
                        go_wp2_with (first | (go_at_call 99; refine (r_digit _ _ hbq).mono ?_; rw [hf]; rintro e w' ⟨rfl, rfl⟩) | (go_at_call 100; refine (r_number _ _ HXM.out HDA.out HDP.out).mono ?_; rw [HV.out]; rintro e w' ⟨rfl, rfl⟩))
                        go_meet
                        exact cut_dig0 s k hlt HZ.out HD.out q x HX.out.1 wr o HTO.out hbi
                      · have hV1 : V = ((numL x.data.toList : Nat) : Int) := by rw [← HV.out, if_neg hbi]
                        obtain ⟨m, hm⟩ : ∃ m, numL x.data.toList = m := ⟨_, rfl⟩
                        have HM := Lib.hid hm
                        rw [hm] at hV1
                        clear hm
                        subst hV1
                        go_wp2_with (first | (go_at_call 99; refine (r_digit _ _ hbq).mono ?_; rw [hf]; rintro e w' ⟨rfl, rfl⟩) | (go_at_call 100; refine (r_number _ _ HXM.out HDA.out HDP.out).mono ?_; rw [HV.out]; rintro e w' ⟨rfl, rfl⟩))
                        go_meet
                        exact cut_dig1 s k hlt HZ.out HD.out q HE.out x HX.out.1 wr o HTO.out hbi m HM.out
                    · obtain ⟨V, hV⟩ : ∃ V : Int, (if badInt x then (-1 : Int) else ((numL x.data.toList : Nat) : Int)) = V := ⟨_, rfl⟩
                      have HV := Lib.hid hV
                      have HDA : Hid (x.data.toList.all (fun c => digN c.toNat) = true) := by show _ = _; rw [HX.out.1]; exact rowL_all_p _ _
                      have HDP : Hid (0 < x.size) := by show _ < _; have := HX.out.2; have := HE.out; omega
                      clear hV
                      by_cases hbi : badInt x
                      · have hV1 : V = -1 := by rw [← HV.out, if_pos hbi]
                        subst hV1
                        go_wp2_with (first | fail | (go_at_call 100; refine (r_number _ _ HXM.out HDA.out HDP.out).mono ?_; rw [HV.out]; rintro e w' ⟨rfl, rfl⟩))
                        go_meet
                        exact cut_dig0 s k hlt HZ.out HD.out q x HX.out.1 wr o HTO.out hbi
                      · have hV1 : V = ((numL x.data.toList : Nat) : Int) := by rw [← HV.out, if_neg hbi]
                        obtain ⟨m, hm⟩ : ∃ m, numL x.data.toList = m := ⟨_, rfl⟩
                        have HM := Lib.hid hm
                        rw [hm] at hV1
                        clear hm
                        subst hV1
                        go_wp2_with (first | fail | (go_at_call 100; refine (r_number _ _ HXM.out HDA.out HDP.out).mono ?_; rw [HV.out]; rintro e w' ⟨rfl, rfl⟩))
                        go_meet
                        exact cut_dig1 s k hlt HZ.out HD.out q HE.out x HX.out.1 wr o HTO.out hbi m HM.out
            · as_aux_lemma =>
              obtain ⟨e, he⟩ : ∃ e, k + (rowL resN (D s k)).length = e := ⟨_, rfl⟩
              have hes := row_to resN s k (Nat.le_of_lt hlt)
              have hek : k ≤ e := by omega
              rw [he] at hes
              have HE := Lib.hid he
              clear he
              go_wp2_with fail
              go_loopg [7] (e - k) (fun gn i wx => ∃ q : Nat, gn + q ≤ e ∧ e ≤ gn + q ∧ k ≤ q ∧ i = .int .i64 (q : Int) ∧ (wr.alloc (.cells #[.int .i64 0, .int .i64 (k : Int), .string ⟨#[]⟩, .int .i64 0] 103)) = wx)
              case atStart => exact ⟨k, by omega, by omega, Nat.le_refl _, rfl, rfl⟩
              case round =>
                obtain ⟨q, hq1, hq2, hkq, rfl, rfl⟩ := hrel
                by_cases hqe : q < e
                · have hqs : q < s.size := by omega
                  have hp := row_in resN s k q hkq (by rw [HE.out]; exact hqe) hqs
                  have hbq : s[q].toNat ≤ 255 := byte_le _
                  go_wp2_with (go_at_call 95; refine (r_rest _ _ hbq).mono ?_; rw [hp]; rintro e w' ⟨rfl, rfl⟩)
                  go_roundg (e - (q + 1))
                  case measure => omega
                  case rel => exact ⟨q + 1, by omega, by omega, by omega, by go_num, rfl⟩
                · obtain rfl : q = e := by omega
                  have hdone : (∃ h : q < s.size, resN s[q].toNat = false) ∨ ¬ q < s.size := by
                    by_cases h : q < s.size
                    · exact .inl ⟨h, row_end resN s k q HE.out h⟩
                    · exact .inr h
                  obtain ⟨x, hx⟩ : ∃ x, s.extract k q = x := ⟨_, rfl⟩
                  have hxd : x.data.toList = rowL resN (D s k) := by rw [← hx]; exact ext_row2 resN s k q HE.out
                  have hxs : x.size = (rowL resN (D s k)).length := by rw [← len_data, hxd]
                  have T : ∀ W, Sem.run Try.prog (Instr.slice 9 (.string s) (some (.int .i64 (k : Int))) (some (.int .i64 (q : Int))) none) W = .ok (.string x) W := fun W => by
                    have h := run_slice_string_if (P := Try.prog) W 9 s .i64 .i64 (k : Int) (q : Int) Try.underlying9
                    rw [if_pos (by omega), if_pos (by omega), show ((k : Nat) : Int).toNat = k from rfl, show ((q : Nat) : Int).toNat = q from rfl, hx] at h
                    exact h
                  have HX := Lib.hid (And.intro hxd hxs)
                  have hxm : x.size ≤ maxLen := by have := HE.out; unfold maxLen; omega
                  have HXM := Lib.hid hxm
                  have hk1 : k < q := by
                    have h1 : resN s[k].toNat = true := letN_res HZ.out
                    have h2 : (rowL resN (D s k)).length = (rowL resN (D s (k + 1))).length + 1 := by rw [dcons s k hlt, rowL_yes h1]; rfl
                    have := HE.out
                    omega
                  clear hx hxd hxs hxm
                  rcases hdone with ⟨hqs, hf⟩ | hqs
                  · have hbq : s[q].toNat ≤ 255 := byte_le _
                    obtain ⟨b0, hb0⟩ : ∃ b, wordB x.data.toList = b := ⟨_, rfl⟩
                    obtain ⟨b1, hb1⟩ : ∃ b, nameL x.data.toList = b := ⟨_, rfl⟩
                    obtain ⟨b2, hb2⟩ : ∃ b, conL x.data.toList = b := ⟨_, rfl⟩
                    have HK : Hid (kindL x.data.toList = if b0 then 4 else if b1 then 1 else if b2 then 2 else 0) := by
                      show _ = _
                      subst hb0; subst hb1; subst hb2
                      cases h : wordB x.data.toList
                      · exact kindL_cases _ h
                      · exact kindL_word h
                    have H0 := Lib.hid hb0
                    have H1 := Lib.hid hb1
                    have H2 := Lib.hid hb2
                    clear hb0 hb1 hb2
                    cases b0
                    · cases b1
                      · cases b2
                        · go_wp2_with (first | (go_at_call 95; refine (r_rest _ _ hbq).mono ?_; rw [hf]; rintro e w' ⟨rfl, rfl⟩) | (go_at_call 96; refine (w_word _ _).mono ?_; rw [H0.out]; rintro e w' ⟨rfl, rfl⟩) | (go_at_call 97; refine (r_Name _ _ HXM.out).mono ?_; rw [H1.out]; rintro e w' ⟨rfl, rfl⟩) | (go_at_call 98; refine (r_Con _ _ HXM.out).mono ?_; rw [H2.out]; rintro e w' ⟨rfl, rfl⟩))
                          go_meet
                          exact cut_let s k hlt HZ.out q HE.out x HX.out.1 HX.out.2 wr o HTO.out 0 HK.out
                        · go_wp2_with (first | (go_at_call 95; refine (r_rest _ _ hbq).mono ?_; rw [hf]; rintro e w' ⟨rfl, rfl⟩) | (go_at_call 96; refine (w_word _ _).mono ?_; rw [H0.out]; rintro e w' ⟨rfl, rfl⟩) | (go_at_call 97; refine (r_Name _ _ HXM.out).mono ?_; rw [H1.out]; rintro e w' ⟨rfl, rfl⟩) | (go_at_call 98; refine (r_Con _ _ HXM.out).mono ?_; rw [H2.out]; rintro e w' ⟨rfl, rfl⟩))
                          go_meet
                          exact cut_let s k hlt HZ.out q HE.out x HX.out.1 HX.out.2 wr o HTO.out 2 HK.out
                      · go_wp2_with (first | (go_at_call 95; refine (r_rest _ _ hbq).mono ?_; rw [hf]; rintro e w' ⟨rfl, rfl⟩) | (go_at_call 96; refine (w_word _ _).mono ?_; rw [H0.out]; rintro e w' ⟨rfl, rfl⟩) | (go_at_call 97; refine (r_Name _ _ HXM.out).mono ?_; rw [H1.out]; rintro e w' ⟨rfl, rfl⟩))
                        go_meet
                        exact cut_let s k hlt HZ.out q HE.out x HX.out.1 HX.out.2 wr o HTO.out 1 HK.out
                    · go_wp2_with (first | (go_at_call 95; refine (r_rest _ _ hbq).mono ?_; rw [hf]; rintro e w' ⟨rfl, rfl⟩) | (go_at_call 96; refine (w_word _ _).mono ?_; rw [H0.out]; rintro e w' ⟨rfl, rfl⟩))
                      go_meet
                      exact cut_let s k hlt HZ.out q HE.out x HX.out.1 HX.out.2 wr o HTO.out 4 HK.out
                  · obtain ⟨b0, hb0⟩ : ∃ b, wordB x.data.toList = b := ⟨_, rfl⟩
                    obtain ⟨b1, hb1⟩ : ∃ b, nameL x.data.toList = b := ⟨_, rfl⟩
                    obtain ⟨b2, hb2⟩ : ∃ b, conL x.data.toList = b := ⟨_, rfl⟩
                    have HK : Hid (kindL x.data.toList = if b0 then 4 else if b1 then 1 else if b2 then 2 else 0) := by
                      show _ = _
                      subst hb0; subst hb1; subst hb2
                      cases h : wordB x.data.toList
                      · exact kindL_cases _ h
                      · exact kindL_word h
                    have H0 := Lib.hid hb0
                    have H1 := Lib.hid hb1
                    have H2 := Lib.hid hb2
                    clear hb0 hb1 hb2
                    cases b0
                    · cases b1
                      · cases b2
                        · go_wp2_with (first | fail | (go_at_call 96; refine (w_word _ _).mono ?_; rw [H0.out]; rintro e w' ⟨rfl, rfl⟩) | (go_at_call 97; refine (r_Name _ _ HXM.out).mono ?_; rw [H1.out]; rintro e w' ⟨rfl, rfl⟩) | (go_at_call 98; refine (r_Con _ _ HXM.out).mono ?_; rw [H2.out]; rintro e w' ⟨rfl, rfl⟩))
                          go_meet
                          exact cut_let s k hlt HZ.out q HE.out x HX.out.1 HX.out.2 wr o HTO.out 0 HK.out
                        · go_wp2_with (first | fail | (go_at_call 96; refine (w_word _ _).mono ?_; rw [H0.out]; rintro e w' ⟨rfl, rfl⟩) | (go_at_call 97; refine (r_Name _ _ HXM.out).mono ?_; rw [H1.out]; rintro e w' ⟨rfl, rfl⟩) | (go_at_call 98; refine (r_Con _ _ HXM.out).mono ?_; rw [H2.out]; rintro e w' ⟨rfl, rfl⟩))
                          go_meet
                          exact cut_let s k hlt HZ.out q HE.out x HX.out.1 HX.out.2 wr o HTO.out 2 HK.out
                      · go_wp2_with (first | fail | (go_at_call 96; refine (w_word _ _).mono ?_; rw [H0.out]; rintro e w' ⟨rfl, rfl⟩) | (go_at_call 97; refine (r_Name _ _ HXM.out).mono ?_; rw [H1.out]; rintro e w' ⟨rfl, rfl⟩))
                        go_meet
                        exact cut_let s k hlt HZ.out q HE.out x HX.out.1 HX.out.2 wr o HTO.out 1 HK.out
                    · go_wp2_with (first | fail | (go_at_call 96; refine (w_word _ _).mono ?_; rw [H0.out]; rintro e w' ⟨rfl, rfl⟩))
                      go_meet
                      exact cut_let s k hlt HZ.out q HE.out x HX.out.1 HX.out.2 wr o HTO.out 4 HK.out
          case rest =>
          as_aux_lemma =>
          have HCUT := Lib.hid hcut
          clear hcut
          cases o with
          | none =>
            obtain ⟨hbc, SS, NN, KK, rfl, hbx⟩ := HCUT.out
            obtain ⟨_, _, _, _, _, _, _, _⟩ := hbx.fourb
            have hz := hbx.lt
            have hbz := HB0.out.below hbc
            obtain ⟨_, _, _, _, _, _⟩ := hbz.three
            have hz1 := hbz.lt
            clear hbz
            have HBC := Lib.hid hbc
            clear hbc hbx
            go_wp2_with fail
            refine bodyPost_ret (v := .agg #[.slice none 0 0, .int .i64 3, .int .i64 (k : Int)]) (by simp only [results, Try.results49]; go_simp) rfl ?_
            refine ⟨_, _, _, rfl, ?_, ((((HBW.out.trans (HBC.out.mono HBW.out.size)).setCell (p := ⟨w.heap.size, 0, none⟩) (Nat.le_refl _) _).setCell (p := ⟨w.heap.size, 1, none⟩) (Nat.le_refl _) _).setCell (p := ⟨w.heap.size, 2, none⟩) (Nat.le_refl _) _)⟩
            rw [HR.out, lex_bad s k hlt HST.out HTO.out]
            exact ⟨rfl, rfl, rfl⟩
          | some t =>
            obtain ⟨hbc, rfl, hbx0⟩ := HCUT.out
            have hbx : Box wc wr.heap.size 103 [.int .i64 (t.k : Int), .int .i64 (k : Int), .string (strB t.s), .int .i64 (t.n : Int)] := hbx0
            clear hbx0
            have htk := lex_tok s k hlt HST.out HTO.out
            have ht1 := htk.1
            have ht2 := htk.2.1
            have HL := Lib.hid htk.2.2
            clear htk
            have hk0 := tok_kind HTO.out
            have e0 : ((t.k : Int) == 0) = false := by simp; omega
            obtain ⟨_, _, _, _, _, _, _, _⟩ := Box.fourb hbx
            have hz := hbx.lt
            have hbz := HB1.out.below hbc
            obtain ⟨_, _, _, _, _, _⟩ := hbz.three
            have hz1 := hbz.lt
            have HBZ := Lib.hid hbz
            have HOC := Lib.hid (ownsRow_below HO.out hbc)
            have HB0C := Lib.hid (HB0.out.below hbc)
            have HBWC := Lib.hid (HBW.out.trans (hbc.mono HBW.out.size))
            have hlen : ts.length ≤ 65536 := Nat.le_trans HN.out (by omega)
            clear hbz hbc hbx hk0
            go_wp2_with (at_builtin; refine wpList_append_lies _ rfl _ _ 81 rfl (w.heap.size + 2) 103 i0 (.agg #[.int .i64 0, .int .i64 0, .string ⟨#[]⟩, .int .i64 0]) 4 40 Try.underlying81 hi0 hz0 hz1' hz2 rfl (by decide) _ ts.length (tkCs ts) rfl (HOC.out.alloc _) ⟨wc.heap.size, 0, none⟩ 1 1 (tkC (t.at k)) rfl rfl (news_of (cs := tkC (t.at k)) rfl) (tkC_one _) (by decide) ?c3 ?c4 ?c5 _ rfl ?_)
            case c3 => unfold maxLen; omega
            case c4 => omega
            case c5 => simp; omega
            intro g cap w9 hown9 hgrow hat hlt9
            have hbx9 : Box w9 (w.heap.size + 1) 96 [.slice av nv cv, .int .i64 0, .int .i64 0] := (HBZ.out.alloc _).grown hgrow (fun hq => by have := (HO.out.lt _ hq.symm).1; omega)
            have hb09 : Box w9 w.heap.size 96 [.slice none 0 0, .int .i64 0, .int .i64 0] := (HB0C.out.alloc _).grown hgrow (fun hq => by have := (HO.out.lt _ hq.symm).1; omega)
            have hB9 : Below w.heap.size w w9 := (HBWC.out.alloc (by omega) _).grown hgrow (by simp; omega) (fun q hq => Nat.le_trans (by omega) (HO.out.lt q hq).1)
            obtain ⟨_, _, _, _, _, _⟩ := hbx9.three
            have hz9 := hbx9.lt
            rw [← tkCs_snoc] at hown9
            have hg9 := (hown9.lt g rfl).1
            have HOWN9 := Lib.hid hown9
            have HBX9 := Lib.hid hbx9
            have HB09 := Lib.hid hb09
            have HB9 := Lib.hid hB9
            clear hown9 hbx9 hb09 hB9 hgrow hat
            go_wp2_with fail
            go_roundg (s.size - (k + t.w))
            case measure => omega
            case rel => exact ⟨k + t.w, ts ++ [t.at k], _, by omega, by omega, rfl, by show _ ≤ _; have := HN.out; simp; omega, by
              rw [List.length_append]
              exact own_agree HOWN9.out (fun q hq => by
                have hqe : q = g := (Option.some.inj hq).symm
                exact Below.heap_setCell _ ⟨w.heap.size + 1, 0, none⟩ _ q (by show q ≠ w.heap.size + 1; omega)), by show _ = _; rw [HR.out, HL.out, Lx.pre_pre], HB09.out.setOther (by show w.heap.size ≠ w.heap.size + 1; omega) _, HBX9.out.set 0 _, HB9.out.setCell (p := ⟨w.heap.size + 1, 0, none⟩) (by show w.heap.size ≤ w.heap.size + 1; omega) _⟩
      · as_aux_lemma =>
        have HL := Lib.hid (lex_blank s k hlt hl)
        rcases blank3 hl with h | h | h
        all_goals
          go_wp2_with fail
          go_roundg (gk - 1)
          case measure => omega
          case rel => exact ⟨k + 1, ts, v, by omega, by omega, by go_num, Nat.le_succ_of_le HN.out, HO.out, by show _ = _; rw [HR.out, HL.out], HB0.out, HB1.out, HBW.out⟩
    · as_aux_lemma =>
      obtain ⟨av, nv, cv, rfl⟩ := own_shape3 HO.out
      have hx := HB1.out.cell 0
      have hx1 := HB1.out.cell 1
      have hx2 := HB1.out.cell 2
      obtain ⟨_, _, _, _, _, _⟩ := HB0.out.three
      have hz := HB0.out.lt
      have hz1 := HB1.out.lt
      simp only [List.getElem?_cons_zero, List.getElem?_cons_succ] at hx hx1 hx2
      go_wp2_with fail
      refine bodyPost_ret (v := .agg #[.slice av nv cv, .int .i64 0, .int .i64 0]) (by simp only [results, Try.results49]; go_simp) rfl ?_
      refine ⟨_, _, _, rfl, ?_, ((((HBW.out.setCell (p := ⟨w.heap.size, 0, none⟩) (Nat.le_refl _) _).setCell (p := ⟨w.heap.size, 1, none⟩) (Nat.le_refl _) _).setCell (p := ⟨w.heap.size, 2, none⟩) (Nat.le_refl _) _))⟩
      rw [HR.out, show lexL (D s k) k = .ok [] by unfold D; rw [List.drop_of_length_le (by simp; omega)]; rfl]
      refine ⟨?_, rfl, rfl⟩
      rw [List.append_nil]
      exact own_base (b := w.heap.size + 2) (own_agree HO.out (fun q hq => by
        have hq2 := (HO.out.lt q hq).1
        exact (Below.heap_setCell _ ⟨w.heap.size, 2, none⟩ _ q (by show q ≠ w.heap.size; omega)).trans ((Below.heap_setCell _ ⟨w.heap.size, 1, none⟩ _ q (by show q ≠ w.heap.size; omega)).trans (Below.heap_setCell _ ⟨w.heap.size, 0, none⟩ _ q (by show q ≠ w.heap.size; omega))))) (by omega)

end Go.Proofs.Ytgkeblpjmfdhkaa
