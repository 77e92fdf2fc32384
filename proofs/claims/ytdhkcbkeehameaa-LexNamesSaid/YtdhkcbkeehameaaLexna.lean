/- The walk of the law LexNames: it returns true and changes nothing that was there. -/
import Derived.Test.YtdhkcbkeehameaaLexb
namespace Go.Proofs.Ytdhkcbkeehameaa
open Go.RowKit
set_option linter.unusedVariables false
set_option linter.unusedSimpArgs false

def ntab : By := [97, 90, 95, 55, 116]
def nat5 (b : Nat) : UInt8 := ntab.getD (b % 5) 0
def hd5 (up : Bool) : UInt8 := if up then 81 else 113
def nmL (up : Bool) (bs : List Nat) : By := hd5 up :: bs.map nat5
theorem nmL_len (up : Bool) (bs : List Nat) : (nmL up bs).length = bs.length + 1 := by unfold nmL; simp
theorem nat5_res (b : Nat) : resN (nat5 b).toNat = true := by
  have h : ∀ m, m < 5 → resN (ntab.getD m 0).toNat = true := by decide
  exact h _ (Nat.mod_lt _ (by omega))
theorem nmL_all (up : Bool) (bs : List Nat) : (nmL up bs).all (fun c => resN c.toNat) = true := by
  unfold nmL
  rw [List.all_cons, Bool.and_eq_true]
  refine ⟨by cases up <;> decide, ?_⟩
  rw [List.all_eq_true]
  intro c hc
  obtain ⟨b, _, rfl⟩ := List.mem_map.1 hc
  exact nat5_res b
theorem word_head {l : By} (h : wordB l = true) : l.headD 0 ≠ 113 ∧ l.headD 0 ≠ 81 := by
  rw [wordB_or] at h
  simp only [Bool.or_eq_true, beq_iff_eq] at h
  rcases h with h | h | h | h | h | h | h | h | h | h <;> subst h <;> decide
theorem nmL_word (up : Bool) (bs : List Nat) : wordB (nmL up bs) = false := by
  cases h : wordB (nmL up bs)
  · rfl
  · exfalso
    have := word_head h
    cases up
    · exact this.1 rfl
    · exact this.2 rfl
def kind5 (up : Bool) : Nat := if up then 2 else 1
theorem nmL_kind (up : Bool) (bs : List Nat) : kindL (nmL up bs) = if bs.length + 1 ≤ 30 then kind5 up else 0 := by
  have hrow : rowB (nmL up bs) = decide (bs.length + 1 ≤ 30) := by
    rw [Bool.eq_iff_iff, rowB_iff, (rowL_all resN (nmL up bs)).2 (nmL_all up bs), nmL_len]
    simp
  unfold kindL
  rw [nmL_word, hrow]
  by_cases h : bs.length + 1 ≤ 30
  · rw [if_pos h, decide_eq_true h]
    cases up <;> rfl
  · rw [if_neg h, decide_eq_false h]; rfl
theorem nmL_lex (up : Bool) (bs : List Nat) : lexL (nmL up bs) 0 = if bs.length + 1 ≤ 30 then .ok [⟨kind5 up, 0, nmL up bs, 0⟩] else .bad 0 := by
  have hb : blaN (hd5 up).toNat = false := by cases up <;> rfl
  have hd : (hd5 up).toNat ≠ 45 := by cases up <;> decide
  have hl : letN (hd5 up).toNat = true := by cases up <;> rfl
  have hr : rowL resN (nmL up bs) = nmL up bs := by
    conv => lhs; rw [rowL_take resN (nmL up bs)]
    rw [(rowL_all resN (nmL up bs)).2 (nmL_all up bs), List.take_length]
  have ht : tokL (nmL up bs) = if kindL (nmL up bs) = 0 then none else some ⟨kindL (nmL up bs), nmL up bs, 0, (nmL up bs).length⟩ := by
    conv => lhs; unfold nmL
    rw [tokL_cons, if_pos hl]
    rw [show hd5 up :: bs.map nat5 = nmL up bs from rfl, hr]
  rw [nmL_kind] at ht
  have hnd : ¬ ((hd5 up).toNat = 45 ∧ (bs.map nat5).head? = some 45) := fun h => hd h.1
  by_cases h : bs.length + 1 ≤ 30
  · rw [if_pos h] at ht ⊢
    rw [if_neg (by cases up <;> decide)] at ht
    have := lexL_tok (b := hd5 up) (r := bs.map nat5) 0 hb hnd ht
    rw [show hd5 up :: bs.map nat5 = nmL up bs from rfl] at this
    rw [this, List.drop_length]
    rfl
  · rw [if_neg h] at ht ⊢
    rw [if_pos rfl] at ht
    exact lexL_bad (b := hd5 up) (r := bs.map nat5) 0 hb hnd ht
theorem nmL_name (up : Bool) (bs : List Nat) : nameL (nmL up bs) = (decide (bs.length + 1 ≤ 30) && !up) ∧ conL (nmL up bs) = (decide (bs.length + 1 ≤ 30) && up) := by
  unfold nameL conL
  rw [nmL_kind]
  by_cases h : bs.length + 1 ≤ 30
  · rw [if_pos h, decide_eq_true h]; cases up <;> exact ⟨rfl, rfl⟩
  · rw [if_neg h, decide_eq_false h]; exact ⟨rfl, rfl⟩
theorem nm_snoc (up : Bool) (bs : List Nat) (k : Nat) (h : k < bs.length) : nmL up (bs.take (k + 1)) = nmL up (bs.take k) ++ [nat5 (bs.getD k 0)] := by
  unfold nmL
  rw [List.take_succ_eq_append_getElem h, List.map_append]
  simp [List.getD, h]

/-- All ten words. -/
def tenL : By := [100, 97, 116, 97, 32, 108, 101, 116, 32, 105, 110, 32, 105, 102, 32, 116, 104, 101, 110, 32, 101, 108, 115, 101, 32, 99, 97, 115, 101, 32, 111, 102, 32, 116, 114, 117, 101, 32, 102, 97, 108, 115, 101]
def Lx.ten : Lx → Bool
  | Sum.inl i => false
  | Sum.inr l => l.length == 10 && l.all (fun t => t.k == 4 && !nameL t.s)
theorem ten_ok : ∃ ts, lexL tenL 0 = .ok ts ∧ ts.length = 10 ∧ ∀ t ∈ ts, t.k = 4 ∧ nameL t.s = false ∧ t.s.length ≤ 1000000 := by
  have h : (lexL tenL 0).ten = true := by decide +kernel
  rcases Lx.cases (lexL tenL 0) with ⟨i, hx⟩ | ⟨l, hx⟩
  · rw [hx] at h; exact absurd h (by show ¬ false = true; decide)
  · rw [hx] at h
    have h2 : (l.length == 10 && l.all (fun t => t.k == 4 && !nameL t.s)) = true := h
    rw [Bool.and_eq_true, List.all_eq_true] at h2
    refine ⟨l, hx, by simpa using h2.1, fun t ht => ?_⟩
    have h3 := h2.2 t ht
    have h4 := (lexL_fit (l := tenL) (by decide) hx t ht).2.2.1
    simp only [Bool.and_eq_true, beq_iff_eq, Bool.not_eq_true'] at h3
    exact ⟨h3.1, h3.2, h4⟩

set_option maxRecDepth 100000 in
set_option maxHeartbeats 4000000 in
theorem names_law (a1 : Option Addr) (n1 c1 : Nat) (b1 : List Nat) (up : Bool) (w : World) (hr1 : RowY 0 w.heap.size w a1 n1 b1) (hb1 : ∀ i, i < n1 → b1.getD i 0 ≤ 255) (g1 : n1 ≤ 9223372036854775807) :
    Calls Try.prog 7 #[.slice a1 n1 c1, .bool up] w fun e w' => e = .returned (.bool true) ∧ Below w.heap.size w w' := by
  by_cases h1 : 40 < n1
  · go_enter Try.func7, Try.ntmps7
    go_wp2_with (go_at_call 9; refine (awake9 _).mono ?_; rintro e w' ⟨rfl, hb⟩)
    go_ret
    exact ⟨rfl, hb⟩
  have HR3 := Lib.hid hr1
  have HB3 := Lib.hid hb1
  have HL3 := Lib.hid hr1.1
  clear hr1 hb1 g1
  cases up
  all_goals
    go_enter Try.func7, Try.ntmps7
    go_wp2_with fail
  · go_loopg [5, 6] (n1) (fun gn s i wr => ∃ k : Nat, gn + k ≤ n1 ∧ n1 ≤ gn + k ∧ i = .int .i64 (k : Int) ∧ s = .string (strB (nmL false (b1.take k))) ∧ Hid (Below w.heap.size w wr))
    case atStart => exact ⟨0, by omega, by omega, rfl, rfl, Below.refl _ _⟩
    case round =>
      obtain ⟨k, hk1, hk2, rfl, rfl, HBR⟩ := hrel
      by_cases hlt : k < n1
      · obtain ⟨hl, hc | ⟨b, off, rfl, _, hbb, hcell⟩⟩ := HR3.out
        · omega
        · have hbl : b < wr.heap.size := Nat.lt_of_lt_of_le hbb HBR.out.size
          have d1 := (HBR.out.cell (p := ⟨b, off + k, none⟩) hbb).trans (hcell k hlt)
          have hb255 := HB3.out k hlt
          obtain ⟨x, hx⟩ : ∃ x, b1.getD k 0 = x := ⟨_, rfl⟩
          have hsn := nm_snoc false b1 k (by omega)
          have hnl := nmL_len false (b1.take k)
          rw [List.length_take] at hnl
          rw [hx] at d1 hb255 hsn
          obtain ⟨m, hm⟩ : ∃ m, x % 5 = m := ⟨_, rfl⟩
          have hm5 : m < 5 := by rw [← hm]; exact Nat.mod_lt _ (by omega)
          have em : (x : Int) % 5 = (m : Int) := by omega
          have em2 : (x : Int).tmod 5 = (m : Int) := by rw [Int.tmod_eq_emod_of_nonneg (by omega)]; exact em
          have hbx := Box.new wr 9 (ntab.map fun c => Value.string (strB [c]))
          have d2 : (wr.alloc (.cells #[.string ⟨#[97]⟩, .string ⟨#[90]⟩, .string ⟨#[95]⟩, .string ⟨#[55]⟩, .string ⟨#[116]⟩] 9)).cell? ⟨wr.heap.size, m, none⟩ = some (.string (strB [nat5 x])) := by
            refine (hbx.cell m).trans ?_
            rw [List.getElem?_map, List.getElem?_eq_getElem (show m < ntab.length from hm5)]
            unfold nat5
            rw [hm, List.getD_eq_getElem?_getD, List.getElem?_eq_getElem (show m < ntab.length from hm5)]
            rfl
          have d3 : (wr.alloc (.cells #[.string ⟨#[97]⟩, .string ⟨#[90]⟩, .string ⟨#[95]⟩, .string ⟨#[55]⟩, .string ⟨#[116]⟩] 9)).cell? ⟨b, off + k, none⟩ = some (.int .u8 (x : Int)) := (World.cell?_of_block (Below.heap_alloc _ _ b hbl)).trans d1
          have HSN : Hid (strB (nmL false (b1.take (k + 1))) = strB (nmL false (b1.take k)) ++ strB [nat5 x]) := by show _ = _; rw [hsn, strB_app]
          have z1 : (strB (nmL false (b1.take k))).size ≤ 2000 := by rw [strB_size]; omega
          have z2 : (strB [nat5 x]).size ≤ 10 := by rw [strB_size]; simp
          have HBA := Lib.hid (HBR.out.alloc HBR.out.size (.cells #[.string ⟨#[97]⟩, .string ⟨#[90]⟩, .string ⟨#[95]⟩, .string ⟨#[55]⟩, .string ⟨#[116]⟩] 9))
          generalize strB (nmL false (b1.take k)) = L at *
          generalize strB [nat5 x] = S at *
          have T3 : ∀ W, Sem.run Try.prog (Op.stringOp .add L S) W = .ok (.string (L ++ S)) W := fun W => run_string_add_sum W L S (by omega)
          clear hcell hx hsn hm em hbx hnl d1
          go_wp2_with fail
          go_roundg (n1 - (k + 1))
          case measure => omega
          case rel => exact ⟨k + 1, by omega, by omega, by go_num, by rw [HSN.out], HBA.out⟩
      · obtain rfl : k = n1 := by omega
        have e : b1.take k = b1 := List.take_of_length_le (by rw [HL3.out]; exact Nat.le_refl _)
        rw [e]
        clear e hlt
        have hlen := nmL_len false b1
        have hlex := nmL_lex false b1
        have hnm := nmL_name false b1
        rw [HL3.out] at hlen hlex hnm
        obtain ⟨Z, hZ⟩ : ∃ Z, nmL false b1 = Z := ⟨_, rfl⟩
        rw [hZ] at hlen hlex hnm ⊢
        have hsz := strB_size Z
        rw [hlen] at hsz
        have HLX := Lib.hid hlex
        have HNM := Lib.hid hnm
        have HZL : Hid (Z.length ≤ 1000000) := by show Z.length ≤ _; omega
        have hm2 : (strB Z).size ≤ maxLen := by rw [hsz]; unfold maxLen; omega
        have HSM := Lib.hid hm2
        have HZ2 : Hid (Z.length ≤ 65536) := by show Z.length ≤ _; omega
        clear hZ hlex hnm hlen hm2
        go_wp2_with fail
        refine (t_lexB Z wr HZ2.out).mono ?_
        rintro e x1 ⟨v1, E1, A1, rfl, ho1, hx1⟩
        have HX1 := Lib.hid (HBR.out.trans (hx1.mono HBR.out.size))
        have KN : ∀ v, nameL Z = v → ∀ W, Calls Try.prog 14 #[.string (strB Z)] W fun e w' => e = .returned (.bool v) ∧ w' = W := fun v hv W => by
          have h := k_Name (strB Z) W HSM.out
          rwa [strB_data, hv] at h
        have KC : ∀ v, conL Z = v → ∀ W, Calls Try.prog 16 #[.string (strB Z)] W fun e w' => e = .returned (.bool v) ∧ w' = W := fun v hv W => by
          have h := k_Con (strB Z) W HSM.out
          rwa [strB_data, hv] at h
        by_cases h30 : k + 1 ≤ 30
        · have hlex := HLX.out
          have hnm := HNM.out
          rw [if_pos h30] at hlex
          rw [decide_eq_true h30] at hnm
          have KN1 := Lib.hid (KN true hnm.1)
          have KC1 := Lib.hid (KC false hnm.2)
          obtain ⟨⟨p1, q1, rfl, hq1, ht1⟩, rfl, rfl⟩ := ho1.of_ok hlex
          obtain ⟨tw, hw1, hw2, hw3⟩ := ten_ok
          clear ho1 hx1 hlex hnm KN KC
          obtain ⟨bz, oz, rfl, hbz, hcz⟩ := ht1.cell (by simp)
          obtain ⟨z0, z1, z2, z3⟩ := hcz 0 _ rfl
          simp only [Nat.zero_mul, Nat.add_zero] at z0 z1 z2 z3
          have z0 : x1.cell? ⟨bz, oz, none⟩ = some (.int .i64 1) := z0
          have z1 : x1.cell? ⟨bz, oz + 1, none⟩ = some (.int .i64 0) := z1
          have z3 : x1.cell? ⟨bz, oz + 3, none⟩ = some (.int .i64 0) := z3
          have Z0 := Lib.hid (And.intro z0 (And.intro z1 (And.intro z2 z3)))
          clear ht1 hcz z0 z1 z2 z3
          go_wp2_with fail
          refine (t_lexB tenL x1 (by decide)).mono ?_
          rintro e x2 ⟨v2, E2, A2, rfl, ho2, hx2⟩
          obtain ⟨⟨p2, q2, rfl, hq2, ht2⟩, rfl, rfl⟩ := ho2.of_ok hw1
          rw [hw2] at hq2 ht2 ⊢
          have HX2 := Lib.hid hx2
          have HT2 := Lib.hid ht2
          have HW3 := Lib.hid hw3
          have HW2 := Lib.hid hw2
          clear ho2 hx2 ht2 hw3 hw1 hw2
          go_wp2_with fail
          go_loop [14] (fun i => ∃ r : Nat, r ≤ 10 ∧ i = .int .i64 (r : Int)) (fun i => 10 - (intOf i).toNat)
          case atStart => exact ⟨0, by omega, rfl⟩
          case round =>
            obtain ⟨r, hr, rfl⟩ := hrel
            by_cases hr10 : r < 10
            · obtain ⟨b5, o5, rfl, hb5, hc5⟩ := HT2.out.cell (by omega)
              obtain ⟨t, ht⟩ : ∃ t, tw[r]? = some t := ⟨_, List.getElem?_eq_getElem (by rw [HW2.out]; exact hr10)⟩
              obtain ⟨y0, y1, y2, y3⟩ := hc5 r t ht
              obtain ⟨ht4, htn, hts⟩ := HW3.out t (List.mem_of_getElem? ht)
              have y0' : x2.cell? ⟨b5, o5 + r * 4, none⟩ = some (.int .i64 4) := by rw [y0, ht4]; rfl
              have KW : ∀ W, Calls Try.prog 14 #[.string (strB t.s)] W fun e w' => e = .returned (.bool false) ∧ w' = W := fun W => by
                have h := k_Name (strB t.s) W (by rw [strB_size]; unfold maxLen; omega)
                rwa [strB_data, htn] at h
              have KW1 := Lib.hid KW
              have hri0 : (0 : Int) ≤ (r : Int) := by omega
              have hri1 : (r : Int) < 10 := by omega
              have T7 : ∀ W, Sem.run Try.prog (Instr.indexAt 23 (.slice (some ⟨b5, o5, none⟩) 10 q2) (.int .i64 (r : Int))) W = .ok (.pointer (some ⟨b5, o5 + r * 4, none⟩)) W := fun W => by go_simp
              clear hc5 ht ht4 htn hts KW y0
              go_wp2_with (go_at_call 14; refine (KW1.out _).mono ?_; rintro e w' ⟨rfl, hw⟩; have hw := hw.symm; subst hw)
              go_round
              case rel => exact ⟨r + 1, by omega, by go_num⟩
              case measure => simp [intOf]; omega
            · obtain rfl : r = 10 := by omega
              have z0 := (HX2.out.cell (p := ⟨bz, oz, none⟩) hbz).trans Z0.out.1
              have z1 := (HX2.out.cell (p := ⟨bz, oz + 1, none⟩) hbz).trans Z0.out.2.1
              have z2 := (HX2.out.cell (p := ⟨bz, oz + 2, none⟩) hbz).trans Z0.out.2.2.1
              have z3 := (HX2.out.cell (p := ⟨bz, oz + 3, none⟩) hbz).trans Z0.out.2.2.2
              have hbz2 : bz < x2.heap.size := Nat.lt_of_lt_of_le hbz HX2.out.size
              have hGe := tok_guard_eq
              have hE : ∀ W' : World, (binOp .eql 38 (.agg #[.int .i64 1, .int .i64 0, .string (strB Z), .int .i64 0]) (.agg #[.int .i64 1, .int .i64 0, .string (strB Z), .int .i64 0])).run Try.prog W' = .ok (.bool true) W' := fun W' =>
                tok_eq (strB Z) W' (by unfold fits; omega) (by unfold fits; omega) (by unfold fits; omega) (by rw [strB_size]; exact HZL.out)
              go_wp2_with (first | (go_at_call 13; refine (num_any _ _).mono ?_; rintro e w' ⟨rfl, hw⟩; have hw := hw.symm; subst hw) | (go_at_call 14; refine (KN1.out _).mono ?_; rintro e w' ⟨rfl, hw⟩; have hw := hw.symm; subst hw) | (go_at_call 16; refine (KC1.out _).mono ?_; rintro e w' ⟨rfl, hw⟩; have hw := hw.symm; subst hw) | (go_at_call 9; refine (awake9 _).mono ?_; rintro e w' ⟨rfl, hb⟩))
              go_ret
              exact ⟨rfl, below_nxt (HX1.out.trans (HX2.out.mono HX1.out.size)) hb (Nat.le_refl _)⟩
        · have hlex := HLX.out
          have hnm := HNM.out
          rw [if_neg h30] at hlex
          rw [decide_eq_false h30] at hnm
          have KN1 := Lib.hid (KN false hnm.1)
          have KC1 := Lib.hid (KC false hnm.2)
          obtain ⟨rfl, rfl, rfl⟩ := ho1.of_bad hlex
          clear ho1 hx1 hlex hnm KN KC
          go_wp2_with (first | (go_at_call 13; refine (num_any _ _).mono ?_; rintro e w' ⟨rfl, hw⟩; have hw := hw.symm; subst hw) | (go_at_call 14; refine (KN1.out _).mono ?_; rintro e w' ⟨rfl, hw⟩; have hw := hw.symm; subst hw) | (go_at_call 16; refine (KC1.out _).mono ?_; rintro e w' ⟨rfl, hw⟩; have hw := hw.symm; subst hw) | (go_at_call 9; refine (awake9 _).mono ?_; rintro e w' ⟨rfl, hb⟩))
          go_ret
          exact ⟨rfl, below_nxt HX1.out hb (Nat.le_refl _)⟩
  · go_loopg [5, 6] (n1) (fun gn s i wr => ∃ k : Nat, gn + k ≤ n1 ∧ n1 ≤ gn + k ∧ i = .int .i64 (k : Int) ∧ s = .string (strB (nmL true (b1.take k))) ∧ Hid (Below w.heap.size w wr))
    case atStart => exact ⟨0, by omega, by omega, rfl, rfl, Below.refl _ _⟩
    case round =>
      obtain ⟨k, hk1, hk2, rfl, rfl, HBR⟩ := hrel
      by_cases hlt : k < n1
      · obtain ⟨hl, hc | ⟨b, off, rfl, _, hbb, hcell⟩⟩ := HR3.out
        · omega
        · have hbl : b < wr.heap.size := Nat.lt_of_lt_of_le hbb HBR.out.size
          have d1 := (HBR.out.cell (p := ⟨b, off + k, none⟩) hbb).trans (hcell k hlt)
          have hb255 := HB3.out k hlt
          obtain ⟨x, hx⟩ : ∃ x, b1.getD k 0 = x := ⟨_, rfl⟩
          have hsn := nm_snoc true b1 k (by omega)
          have hnl := nmL_len true (b1.take k)
          rw [List.length_take] at hnl
          rw [hx] at d1 hb255 hsn
          obtain ⟨m, hm⟩ : ∃ m, x % 5 = m := ⟨_, rfl⟩
          have hm5 : m < 5 := by rw [← hm]; exact Nat.mod_lt _ (by omega)
          have em : (x : Int) % 5 = (m : Int) := by omega
          have em2 : (x : Int).tmod 5 = (m : Int) := by rw [Int.tmod_eq_emod_of_nonneg (by omega)]; exact em
          have hbx := Box.new wr 9 (ntab.map fun c => Value.string (strB [c]))
          have d2 : (wr.alloc (.cells #[.string ⟨#[97]⟩, .string ⟨#[90]⟩, .string ⟨#[95]⟩, .string ⟨#[55]⟩, .string ⟨#[116]⟩] 9)).cell? ⟨wr.heap.size, m, none⟩ = some (.string (strB [nat5 x])) := by
            refine (hbx.cell m).trans ?_
            rw [List.getElem?_map, List.getElem?_eq_getElem (show m < ntab.length from hm5)]
            unfold nat5
            rw [hm, List.getD_eq_getElem?_getD, List.getElem?_eq_getElem (show m < ntab.length from hm5)]
            rfl
          have d3 : (wr.alloc (.cells #[.string ⟨#[97]⟩, .string ⟨#[90]⟩, .string ⟨#[95]⟩, .string ⟨#[55]⟩, .string ⟨#[116]⟩] 9)).cell? ⟨b, off + k, none⟩ = some (.int .u8 (x : Int)) := (World.cell?_of_block (Below.heap_alloc _ _ b hbl)).trans d1
          have HSN : Hid (strB (nmL true (b1.take (k + 1))) = strB (nmL true (b1.take k)) ++ strB [nat5 x]) := by show _ = _; rw [hsn, strB_app]
          have z1 : (strB (nmL true (b1.take k))).size ≤ 2000 := by rw [strB_size]; omega
          have z2 : (strB [nat5 x]).size ≤ 10 := by rw [strB_size]; simp
          have HBA := Lib.hid (HBR.out.alloc HBR.out.size (.cells #[.string ⟨#[97]⟩, .string ⟨#[90]⟩, .string ⟨#[95]⟩, .string ⟨#[55]⟩, .string ⟨#[116]⟩] 9))
          generalize strB (nmL true (b1.take k)) = L at *
          generalize strB [nat5 x] = S at *
          have T3 : ∀ W, Sem.run Try.prog (Op.stringOp .add L S) W = .ok (.string (L ++ S)) W := fun W => run_string_add_sum W L S (by omega)
          clear hcell hx hsn hm em hbx hnl d1
          go_wp2_with fail
          go_roundg (n1 - (k + 1))
          case measure => omega
          case rel => exact ⟨k + 1, by omega, by omega, by go_num, by rw [HSN.out], HBA.out⟩
      · obtain rfl : k = n1 := by omega
        have e : b1.take k = b1 := List.take_of_length_le (by rw [HL3.out]; exact Nat.le_refl _)
        rw [e]
        clear e hlt
        have hlen := nmL_len true b1
        have hlex := nmL_lex true b1
        have hnm := nmL_name true b1
        rw [HL3.out] at hlen hlex hnm
        obtain ⟨Z, hZ⟩ : ∃ Z, nmL true b1 = Z := ⟨_, rfl⟩
        rw [hZ] at hlen hlex hnm ⊢
        have hsz := strB_size Z
        rw [hlen] at hsz
        have HLX := Lib.hid hlex
        have HNM := Lib.hid hnm
        have HZL : Hid (Z.length ≤ 1000000) := by show Z.length ≤ _; omega
        have hm2 : (strB Z).size ≤ maxLen := by rw [hsz]; unfold maxLen; omega
        have HSM := Lib.hid hm2
        have HZ2 : Hid (Z.length ≤ 65536) := by show Z.length ≤ _; omega
        clear hZ hlex hnm hlen hm2
        go_wp2_with fail
        refine (t_lexB Z wr HZ2.out).mono ?_
        rintro e x1 ⟨v1, E1, A1, rfl, ho1, hx1⟩
        have HX1 := Lib.hid (HBR.out.trans (hx1.mono HBR.out.size))
        have KN : ∀ v, nameL Z = v → ∀ W, Calls Try.prog 14 #[.string (strB Z)] W fun e w' => e = .returned (.bool v) ∧ w' = W := fun v hv W => by
          have h := k_Name (strB Z) W HSM.out
          rwa [strB_data, hv] at h
        have KC : ∀ v, conL Z = v → ∀ W, Calls Try.prog 16 #[.string (strB Z)] W fun e w' => e = .returned (.bool v) ∧ w' = W := fun v hv W => by
          have h := k_Con (strB Z) W HSM.out
          rwa [strB_data, hv] at h
        by_cases h30 : k + 1 ≤ 30
        · have hlex := HLX.out
          have hnm := HNM.out
          rw [if_pos h30] at hlex
          rw [decide_eq_true h30] at hnm
          have KN1 := Lib.hid (KN false hnm.1)
          have KC1 := Lib.hid (KC true hnm.2)
          obtain ⟨⟨p1, q1, rfl, hq1, ht1⟩, rfl, rfl⟩ := ho1.of_ok hlex
          obtain ⟨tw, hw1, hw2, hw3⟩ := ten_ok
          clear ho1 hx1 hlex hnm KN KC
          obtain ⟨bz, oz, rfl, hbz, hcz⟩ := ht1.cell (by simp)
          obtain ⟨z0, z1, z2, z3⟩ := hcz 0 _ rfl
          simp only [Nat.zero_mul, Nat.add_zero] at z0 z1 z2 z3
          have z0 : x1.cell? ⟨bz, oz, none⟩ = some (.int .i64 2) := z0
          have z1 : x1.cell? ⟨bz, oz + 1, none⟩ = some (.int .i64 0) := z1
          have z3 : x1.cell? ⟨bz, oz + 3, none⟩ = some (.int .i64 0) := z3
          have Z0 := Lib.hid (And.intro z0 (And.intro z1 (And.intro z2 z3)))
          clear ht1 hcz z0 z1 z2 z3
          go_wp2_with fail
          refine (t_lexB tenL x1 (by decide)).mono ?_
          rintro e x2 ⟨v2, E2, A2, rfl, ho2, hx2⟩
          obtain ⟨⟨p2, q2, rfl, hq2, ht2⟩, rfl, rfl⟩ := ho2.of_ok hw1
          rw [hw2] at hq2 ht2 ⊢
          have HX2 := Lib.hid hx2
          have HT2 := Lib.hid ht2
          have HW3 := Lib.hid hw3
          have HW2 := Lib.hid hw2
          clear ho2 hx2 ht2 hw3 hw1 hw2
          go_wp2_with fail
          go_loop [14] (fun i => ∃ r : Nat, r ≤ 10 ∧ i = .int .i64 (r : Int)) (fun i => 10 - (intOf i).toNat)
          case atStart => exact ⟨0, by omega, rfl⟩
          case round =>
            obtain ⟨r, hr, rfl⟩ := hrel
            by_cases hr10 : r < 10
            · obtain ⟨b5, o5, rfl, hb5, hc5⟩ := HT2.out.cell (by omega)
              obtain ⟨t, ht⟩ : ∃ t, tw[r]? = some t := ⟨_, List.getElem?_eq_getElem (by rw [HW2.out]; exact hr10)⟩
              obtain ⟨y0, y1, y2, y3⟩ := hc5 r t ht
              obtain ⟨ht4, htn, hts⟩ := HW3.out t (List.mem_of_getElem? ht)
              have y0' : x2.cell? ⟨b5, o5 + r * 4, none⟩ = some (.int .i64 4) := by rw [y0, ht4]; rfl
              have KW : ∀ W, Calls Try.prog 14 #[.string (strB t.s)] W fun e w' => e = .returned (.bool false) ∧ w' = W := fun W => by
                have h := k_Name (strB t.s) W (by rw [strB_size]; unfold maxLen; omega)
                rwa [strB_data, htn] at h
              have KW1 := Lib.hid KW
              have hri0 : (0 : Int) ≤ (r : Int) := by omega
              have hri1 : (r : Int) < 10 := by omega
              have T7 : ∀ W, Sem.run Try.prog (Instr.indexAt 23 (.slice (some ⟨b5, o5, none⟩) 10 q2) (.int .i64 (r : Int))) W = .ok (.pointer (some ⟨b5, o5 + r * 4, none⟩)) W := fun W => by go_simp
              clear hc5 ht ht4 htn hts KW y0
              go_wp2_with (go_at_call 14; refine (KW1.out _).mono ?_; rintro e w' ⟨rfl, hw⟩; have hw := hw.symm; subst hw)
              go_round
              case rel => exact ⟨r + 1, by omega, by go_num⟩
              case measure => simp [intOf]; omega
            · obtain rfl : r = 10 := by omega
              have z0 := (HX2.out.cell (p := ⟨bz, oz, none⟩) hbz).trans Z0.out.1
              have z1 := (HX2.out.cell (p := ⟨bz, oz + 1, none⟩) hbz).trans Z0.out.2.1
              have z2 := (HX2.out.cell (p := ⟨bz, oz + 2, none⟩) hbz).trans Z0.out.2.2.1
              have z3 := (HX2.out.cell (p := ⟨bz, oz + 3, none⟩) hbz).trans Z0.out.2.2.2
              have hbz2 : bz < x2.heap.size := Nat.lt_of_lt_of_le hbz HX2.out.size
              have hGe := tok_guard_eq
              have hE : ∀ W' : World, (binOp .eql 38 (.agg #[.int .i64 2, .int .i64 0, .string (strB Z), .int .i64 0]) (.agg #[.int .i64 2, .int .i64 0, .string (strB Z), .int .i64 0])).run Try.prog W' = .ok (.bool true) W' := fun W' =>
                tok_eq (strB Z) W' (by unfold fits; omega) (by unfold fits; omega) (by unfold fits; omega) (by rw [strB_size]; exact HZL.out)
              go_wp2_with (first | (go_at_call 13; refine (num_any _ _).mono ?_; rintro e w' ⟨rfl, hw⟩; have hw := hw.symm; subst hw) | (go_at_call 14; refine (KN1.out _).mono ?_; rintro e w' ⟨rfl, hw⟩; have hw := hw.symm; subst hw) | (go_at_call 16; refine (KC1.out _).mono ?_; rintro e w' ⟨rfl, hw⟩; have hw := hw.symm; subst hw) | (go_at_call 9; refine (awake9 _).mono ?_; rintro e w' ⟨rfl, hb⟩))
              go_ret
              exact ⟨rfl, below_nxt (HX1.out.trans (HX2.out.mono HX1.out.size)) hb (Nat.le_refl _)⟩
        · have hlex := HLX.out
          have hnm := HNM.out
          rw [if_neg h30] at hlex
          rw [decide_eq_false h30] at hnm
          have KN1 := Lib.hid (KN false hnm.1)
          have KC1 := Lib.hid (KC false hnm.2)
          obtain ⟨rfl, rfl, rfl⟩ := ho1.of_bad hlex
          clear ho1 hx1 hlex hnm KN KC
          go_wp2_with (first | (go_at_call 13; refine (num_any _ _).mono ?_; rintro e w' ⟨rfl, hw⟩; have hw := hw.symm; subst hw) | (go_at_call 14; refine (KN1.out _).mono ?_; rintro e w' ⟨rfl, hw⟩; have hw := hw.symm; subst hw) | (go_at_call 16; refine (KC1.out _).mono ?_; rintro e w' ⟨rfl, hw⟩; have hw := hw.symm; subst hw) | (go_at_call 9; refine (awake9 _).mono ?_; rintro e w' ⟨rfl, hb⟩))
          go_ret
          exact ⟨rfl, below_nxt HX1.out hb (Nat.le_refl _)⟩

end Go.Proofs.Ytdhkcbkeehameaa
