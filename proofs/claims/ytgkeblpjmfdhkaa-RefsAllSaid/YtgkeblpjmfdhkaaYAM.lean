/- The document's parser in memory: its box, its tokens; fail, peek. The document's parser in memory: fail. The document's parser in memory: try. The document's parser in memory: eat. The document's parser in memory: sign, atomic, atypic. The document's parser: what is carried from call to call (Cay); peek, try, eat, sign, fail in that form; how a call ends. The document's parser: atypic, atomic (whether one of several signs is next). -/
import Derived.Test.YtgkeblpjmfdhkaaZBM
import Derived.BigQuiet
import Derived.Test.YtgkeblpjmfdhkaaZCM
namespace Go.Proofs.Ytgkeblpjmfdhkaa
open Go.RowKit Go.Maps
set_option linter.unusedVariables false
set_option linter.unusedSimpArgs false

/-- What a token of a kind lacks. -/
def Tk.okk (t : Tk) : Prop := (t.k = 1 ∨ t.k = 2 → t.n = 0) ∧ (t.k = 3 → t.s = [])
/-- Where the document's parser is, its tokens. -/
structure Px where
  R : Nat
  En : Nat
  a : Option Addr
  cp : Nat
  ts : List Tk
structure RP (c : Px) (w : World) (σ : PS) : Prop where
  box : ∃ i : Nat, i ≤ c.ts.length ∧ Box w c.R 100 [.slice c.a c.ts.length c.cp, .int .i64 (i : Int), .int .i64 (c.En : Int), .bool σ.st, .int .i64 (σ.at_ : Int)] ∧ (σ.st = false → σ.ts = c.ts.drop i) ∧ (σ.st = true → σ.ts = [])
  tr : TR c.R w c.a c.ts.length c.ts
  cap : c.ts.length ≤ c.cp
  fit : ∀ t ∈ c.ts, t.fit
  okk : ∀ t ∈ c.ts, t.okk
  len : c.ts.length ≤ 65536
theorem five_cells {w : World} {b : Nat} {t : TypeId} {c0 c1 c2 c3 c4 : Value} (h : Box w b t [c0, c1, c2, c3, c4]) : w.cell? ⟨b, 0, none⟩ = some c0 ∧ w.cell? ⟨b, 1, none⟩ = some c1 ∧ w.cell? ⟨b, 2, none⟩ = some c2 ∧ w.cell? ⟨b, 3, none⟩ = some c3 ∧ w.cell? ⟨b, 4, none⟩ = some c4 :=
  ⟨h.cell 0, h.cell 1, h.cell 2, h.cell 3, h.cell 4⟩
theorem five_frozen {w : World} {b : Nat} {t : TypeId} {c0 c1 c2 c3 c4 : Value} (h : Box w b t [c0, c1, c2, c3, c4]) : w.frozen? ⟨b, 0, none⟩ = false ∧ w.frozen? ⟨b, 1, none⟩ = false ∧ w.frozen? ⟨b, 2, none⟩ = false ∧ w.frozen? ⟨b, 3, none⟩ = false ∧ w.frozen? ⟨b, 4, none⟩ = false :=
  ⟨h.frozen 0, h.frozen 1, h.frozen 2, h.frozen 3, h.frozen 4⟩
theorem RP.lt {c : Px} {w : World} {σ : PS} (h : RP c w σ) : c.R < w.heap.size := by obtain ⟨i, _, hb, _⟩ := h.box; exact hb.lt
theorem RP.short {c : Px} {w : World} {σ : PS} (h : RP c w σ) : σ.ts.length ≤ c.ts.length := by
  obtain ⟨i, _, _, h1, h2⟩ := h.box
  cases e : σ.st with
  | false => rw [h1 e, List.length_drop]; omega
  | true => rw [h2 e]; simp
/-- The parser alone is turned. -/
theorem RP.turn {c : Px} {w w' : World} {σ σ' : PS} (h : RP c w σ) (ho : Out (fun b => b = c.R) w w')
    (hb : ∃ i : Nat, i ≤ c.ts.length ∧ Box w' c.R 100 [.slice c.a c.ts.length c.cp, .int .i64 (i : Int), .int .i64 (c.En : Int), .bool σ'.st, .int .i64 (σ'.at_ : Int)] ∧ (σ'.st = false → σ'.ts = c.ts.drop i) ∧ (σ'.st = true → σ'.ts = [])) : RP c w' σ' :=
  ⟨hb, h.tr.agreeR fun b hb' => ho.block b (by have := h.lt; omega) (by omega), h.cap, h.fit, h.okk, h.len⟩
theorem RP.under {c : Px} {w w' : World} {σ : PS} (h : RP c w σ) (hb : Below w.heap.size w w') : RP c w' σ := by
  obtain ⟨i, h0, h1, h2⟩ := h.box
  exact h.turn (Out.of_below hb) ⟨i, h0, h1.below hb, h2⟩
theorem RP.alloc {c : Px} {w : World} {σ : PS} (h : RP c w σ) (o : Obj) : RP c (w.alloc o) σ := h.under ((Below.refl _ w).alloc (Nat.le_refl _) o)
theorem RP.drew {c : Px} {w : World} {σ : PS} (h : RP c w σ) : RP c w.drew σ := h.under ⟨rfl, rfl, rfl, Nat.le_refl _, fun _ _ => rfl⟩
/-- The token that is next, in memory. -/
theorem RP.head {c : Px} {w : World} {σ : PS} {t : Tk} {r : List Tk} (h : RP c w σ) (e : σ.ts = t :: r) : ∃ (i b off : Nat), σ.st = false ∧ i < c.ts.length ∧ c.ts.drop i = t :: r ∧ c.a = some ⟨b, off, none⟩ ∧ b < c.R ∧ Box w c.R 100 [.slice (some ⟨b, off, none⟩) c.ts.length c.cp, .int .i64 (i : Int), .int .i64 (c.En : Int), .bool false, .int .i64 (σ.at_ : Int)] ∧
    w.cell? ⟨b, off + i * 4, none⟩ = some (.int .i64 (t.k : Int)) ∧ w.cell? ⟨b, off + i * 4 + 1, none⟩ = some (.int .i64 (t.p : Int)) ∧ w.cell? ⟨b, off + i * 4 + 2, none⟩ = some (.string (strB t.s)) ∧ w.cell? ⟨b, off + i * 4 + 3, none⟩ = some (.int .i64 (t.n : Int)) ∧ t.fit ∧ t.okk := by
  obtain ⟨i, hi, hb, h1, h2⟩ := h.box
  cases hs : σ.st with
  | true => rw [h2 hs] at e; cases e
  | false =>
    have hd := (h1 hs).symm.trans e
    have hlt : i < c.ts.length := by
      have := congrArg List.length hd
      rw [List.length_drop, List.length_cons] at this; omega
    have hg : c.ts[i]? = some t := by
      have := congrArg (fun l => l[0]?) hd
      simpa [List.getElem?_drop] using this
    obtain ⟨b, off, ha, hbR, hc⟩ := h.tr.cell (by omega)
    obtain ⟨c0, c1, c2, c3⟩ := hc i t hg
    rw [hs, ha] at hb
    exact ⟨i, b, off, rfl, hlt, hd, ha, hbR, hb, c0, c1, c2, c3, h.fit t (List.mem_of_getElem? hg), h.okk t (List.mem_of_getElem? hg)⟩
/-- What the grammar asks, as the document's parser is asked. -/
def Srt.ask (s : Srt) : Prop := s.fit ∧ ((s.s = [] ∧ (s.k = 1 ∨ s.k = 2 ∨ s.k = 3)) ∨ (s.s ≠ [] ∧ (s.k = 4 ∨ s.k = 5)))

set_option maxRecDepth 100000 in
set_option maxHeartbeats 4000000 in
theorem y_peekN (c : Px) (σ : PS) (w : World) (h : RP c w σ) (s : Srt) (hs : s.ask) :
    Calls Try.prog 50 #[.pointer (some ⟨c.R, 0, none⟩), .int .i64 (s.k : Int), .string (strB s.s)] w fun e w' => e = .returned (.bool (σ.sees s)) ∧ ∃ n, w' = w.drewN n := by
  have hR := h.lt
  have hlen := h.len
  have hcap := h.cap
  cases hst : σ.st with
  | true =>
    obtain ⟨i, hi, hb, _, h2⟩ := h.box
    have hv : σ.sees s = false := by
      unfold PS.sees PS.next
      rw [h2 hst]
      refine decide_eq_false fun e => ?_
      have := hs.2; rw [← e] at this; simp at this
    rw [hst] at hb
    rw [hv]
    obtain ⟨_, _, _, _, _⟩ := five_cells hb
    clear h hb hv h2 hst hs
    go_enter Try.func50, Try.ntmps50
    go_wp2_with fail
    go_quiet (fail)
    go_wp2_with fail
    go_ret
    exact ⟨rfl, nq, rfl⟩
  | false =>
    cases hts : σ.ts with
    | nil =>
      obtain ⟨i, hi, hb, h1, _⟩ := h.box
      have hil : i = c.ts.length := by
        have := h1 hst; rw [hts] at this
        have := congrArg List.length this
        rw [List.length_drop, List.length_nil] at this; omega
      subst hil
      have hv : σ.sees s = false := by
        unfold PS.sees PS.next
        rw [hts]
        refine decide_eq_false fun e => ?_
        have := hs.2; rw [← e] at this; simp at this
      rw [hst] at hb
      rw [hv]
      obtain ⟨_, _, _, _, _⟩ := five_cells hb
      clear h hb hv h1 hst hs hts
      generalize c.ts.length = n at *
      have hlt : decide ((n : Int) < (n : Int)) = false := by simp
      go_enter Try.func50, Try.ntmps50
      go_wp2_with fail
      go_quiet (fail)
      go_wp2_with fail
      go_ret
      exact ⟨rfl, nq, rfl⟩
    | cons t r =>
      obtain ⟨i, b, off, _, hi, _, ha, hbR, hb, q0, q1, q2, q3, hf, hok⟩ := h.head hts
      obtain ⟨v, hv⟩ : ∃ v, σ.sees s = v := ⟨_, rfl⟩
      have hv2 : v = decide (srt t = s) := by rw [← hv]; unfold PS.sees PS.next; rw [hts]
      rw [hv]
      obtain ⟨_, _, _, _, _⟩ := five_cells hb
      have hil : decide ((i : Int) < (c.ts.length : Int)) = true := decide_eq_true (by omega)
      clear hb h hv hts hst hok
      generalize c.ts.length = n at *
      obtain ⟨tk, tp, tx, tn⟩ := t
      obtain ⟨k, l⟩ := s
      dsimp only at *
      by_cases hk : tk = k
      · subst hk
        by_cases he : l = []
        · have hvt : v = true := by
            rw [hv2]
            refine decide_eq_true ?_
            have h3 := hs.2
            dsimp only at h3
            subst he
            unfold srt
            dsimp only
            rw [if_neg (by rcases h3 with ⟨_, h3⟩ | ⟨h3, _⟩; omega; exact absurd rfl h3)]
          subst hvt he
          clear hv2 hs hf
          show Calls _ _ #[_, _, .string ⟨#[]⟩] _ _
          go_enter Try.func50, Try.ntmps50
          go_wp2_with fail
          go_quiet (fail)
          go_wp2_with fail
          go_ret
          exact ⟨rfl, nq, rfl⟩
        · have h3 := hs.2
          dsimp only at h3
          have hk5 : tk = 4 ∨ tk = 5 := by rcases h3 with ⟨h4, _⟩ | ⟨_, h4⟩; exact absurd h4 he; exact h4
          have hv3 : v = decide (tx = l) := by
            rw [hv2]
            unfold srt
            dsimp only
            rw [if_pos hk5]
            by_cases e : tx = l
            · subst e; simp
            · simp [e]
          have hz : ((strB l).toList == []) = false := toList_ne (by rw [strB_size]; exact List.length_pos_iff.2 he)
          by_cases ht : tx = l
          · subst ht
            have hvt : v = true := by rw [hv3]; simp
            subst hvt
            have hz2 : ((strB tx).toList == (strB tx).toList) = true := by simp
            generalize strB tx = Z at *
            clear hv2 hv3 hs hf h3 hk5 he
            go_enter Try.func50, Try.ntmps50
            go_wp2_with fail
            go_quiet (fail)
            go_wp2_with fail
            go_ret
            exact ⟨rfl, nq, rfl⟩
          · have hvt : v = false := by rw [hv3]; exact decide_eq_false ht
            subst hvt
            have hz2 : ((strB tx).toList == (strB l).toList) = false := by
              rw [ByteArray.toList_eq, ByteArray.toList_eq, strB_data, strB_data]
              exact beq_false_of_ne ht
            generalize strB tx = Z at *
            generalize strB l = Y at *
            clear hv2 hv3 hs hf h3 hk5 he ht
            go_enter Try.func50, Try.ntmps50
            go_wp2_with fail
            go_quiet (fail)
            go_wp2_with fail
            go_ret
            exact ⟨rfl, nq, rfl⟩
      · have hvf : v = false := by
          rw [hv2]
          refine decide_eq_false fun e => hk ?_
          unfold srt at e
          split at e
          · exact congrArg Srt.k e
          · exact congrArg Srt.k e
        subst hvf
        have hkk : ((tk : Int) == (k : Int)) = false := by simp; omega
        have hkk2 : decide ((tk : Int) = (k : Int)) = false := decide_eq_false (by omega)
        generalize strB l = Z at *
        clear hv2 hs hf
        go_enter Try.func50, Try.ntmps50
        go_wp2_with fail
        go_quiet (fail)
        go_wp2_with fail
        go_ret
        exact ⟨rfl, nq, rfl⟩

theorem y_peek (c : Px) (σ : PS) (w : World) (h : RP c w σ) (s : Srt) (hs : s.ask) :
    Calls Try.prog 50 #[.pointer (some ⟨c.R, 0, none⟩), .int .i64 (s.k : Int), .string (strB s.s)] w fun e w' => e = .returned (.bool (σ.sees s)) ∧ Below w.heap.size w w' :=
  (y_peekN c σ w h s hs).mono fun e w' ⟨h1, n, h2⟩ => ⟨h1, by subst h2; exact ⟨rfl, rfl, rfl, Nat.le_refl _, fun _ _ => rfl⟩⟩

end Go.Proofs.Ytgkeblpjmfdhkaa

namespace Go.Proofs.Ytgkeblpjmfdhkaa
open Go.RowKit Go.Maps
set_option linter.unusedVariables false
set_option linter.unusedSimpArgs false

set_option maxRecDepth 100000 in
set_option maxHeartbeats 4000000 in
theorem y_fail (c : Px) (σ : PS) (w : World) (h : RP c w σ) : Calls Try.prog 101 #[.pointer (some ⟨c.R, 0, none⟩)] w fun e w' => e = .returned (.tuple #[]) ∧ RP c w' (σ.stop c.En) ∧ Out (fun b => b = c.R) w w' := by
  have H := Lib.hid h
  have hR := h.lt
  have hlen := h.len
  have hcap := h.cap
  obtain ⟨ts, st, at_⟩ := σ
  cases st with
  | true =>
    obtain ⟨i, hi, hb, _, h2⟩ := h.box
    obtain ⟨_, _, _, _, _⟩ := five_cells hb
    clear h hb h2
    go_enter Try.func101, Try.ntmps101
    go_wp2_with fail
    go_end0
    exact ⟨rfl, H.out, Out.refl _ _⟩
  | false =>
    cases ts with
    | nil =>
      obtain ⟨i, hi, hb, h1, _⟩ := h.box
      have hil : i = c.ts.length := by
        have h3 : ([] : List Tk) = c.ts.drop i := h1 rfl
        have := congrArg List.length h3
        rw [List.length_drop, List.length_nil] at this; omega
      subst hil
      have HB := Lib.hid hb
      obtain ⟨e0, e1, _, _, _⟩ := five_cells hb
      obtain ⟨_, _, _, _, _⟩ := five_frozen hb
      have hO := ((Out.refl (fun b => b = c.R) w).set1 3 (.bool true)).set1 4 (.int .i64 (c.En : Int))
      have HO := Lib.hid hO
      clear h hb h1 hO
      obtain ⟨n, hn⟩ : ∃ n, c.ts.length = n := ⟨_, rfl⟩
      have HN := Lib.hid hn
      rw [hn] at e0 e1 hlen hcap
      clear hn
      have hlt : decide ((n : Int) < (n : Int)) = false := by simp
      go_enter Try.func101, Try.ntmps101
      go_wp2_with fail
      go_quiet (fail)
      go_wp2_with fail
      go_end0
      have hO2 := HO.out.drewN nq
      have hB2 := ((HB.out.set 3 (.bool true)).set 4 (.int .i64 (c.En : Int))).drewN' nq
      exact ⟨rfl, H.out.turn hO2 ⟨c.ts.length, Nat.le_refl _, by simpa [PS.stop] using hB2, fun e => by simp [PS.stop] at e, fun _ => rfl⟩, hO2⟩
    | cons t r =>
      obtain ⟨i, b, off, _, hi, _, ha, hbR, hb, q0, q1, q2, q3, hf, _⟩ := h.head rfl
      have HB := Lib.hid hb
      obtain ⟨e0, e1, _, _, _⟩ := five_cells hb
      obtain ⟨_, _, _, _, _⟩ := five_frozen hb
      have hO := ((Out.refl (fun b => b = c.R) w).set1 3 (.bool true)).set1 4 (.int .i64 (c.En : Int))
      have HO := Lib.hid hO
      have HI := Lib.hid hi
      have HA := Lib.hid ha
      have hbw : b < w.heap.size := by omega
      have hbn : b ≠ c.R := by omega
      have hil : decide ((i : Int) < (c.ts.length : Int)) = true := decide_eq_true (by omega)
      have T9 : ∀ W, Sem.run Try.prog (Instr.indexAt 81 (.slice (some ⟨b, off, none⟩) c.ts.length c.cp) (.int .i64 (i : Int))) W = .ok (.pointer (some ⟨b, off + i * 4, none⟩)) W := fun W => by go_simp
      clear h hb hO ha hf q0 q2 q3
      obtain ⟨n, hn⟩ : ∃ n, c.ts.length = n := ⟨_, rfl⟩
      have HN := Lib.hid hn
      rw [hn] at e0 hlen hcap hil hi T9
      clear hn
      go_enter Try.func101, Try.ntmps101
      go_wp2_with fail
      go_quiet (fail)
      go_wp2_with fail
      go_region
      all_goals go_wp2_with fail
      all_goals go_end0
      all_goals
        have hO2 := (HO.out.drewN (nq + 1)).set1 4 (.int .i64 (t.p : Int))
        have hB2 := (((HB.out.set 3 (.bool true)).set 4 (.int .i64 (c.En : Int))).drewN' (nq + 1)).set 4 (.int .i64 (t.p : Int))
        exact ⟨rfl, H.out.turn hO2 ⟨i, Nat.le_of_lt HI.out, by rw [HA.out]; simpa [PS.stop] using hB2, fun e => by simp [PS.stop] at e, fun _ => rfl⟩, hO2⟩

end Go.Proofs.Ytgkeblpjmfdhkaa

namespace Go.Proofs.Ytgkeblpjmfdhkaa
open Go.RowKit Go.Maps
set_option linter.unusedVariables false
set_option linter.unusedSimpArgs false

set_option maxRecDepth 100000 in
set_option maxHeartbeats 4000000 in
theorem y_try (c : Px) (σ : PS) (w : World) (h : RP c w σ) (s : By) (hs : (⟨5, s⟩ : Srt).ask) : Calls Try.prog 55 #[.pointer (some ⟨c.R, 0, none⟩), .string (strB s)] w fun e w' =>
    e = .returned (.bool (σ.skip ⟨5, s⟩).1) ∧ RP c w' (σ.skip ⟨5, s⟩).2 ∧ Out (fun b => b = c.R) w w' := by
  have H := Lib.hid h
  have hR := h.lt
  obtain ⟨SS, hSS⟩ : ∃ SS, strB s = SS := ⟨_, rfl⟩
  have HS : Hid (∀ W, RP c W σ → Calls Try.prog 50 #[.pointer (some ⟨c.R, 0, none⟩), .int .i64 5, .string SS] W fun e w' => e = .returned (.bool (σ.sees ⟨5, s⟩)) ∧ Below W.heap.size W w') := fun W hW => by
    have := y_peek c σ W hW ⟨5, s⟩ hs; rwa [hSS] at this
  rw [hSS]
  clear hSS
  cases hsee : σ.sees ⟨5, s⟩ with
  | false =>
    have HE := Lib.hid hsee
    have e1 : σ.skip ⟨5, s⟩ = (false, σ) := by unfold PS.skip; rw [if_neg (by rw [hsee]; decide)]
    rw [e1]
    clear hsee e1 h
    go_enter Try.func55, Try.ntmps55
    go_wp2_with (go_at_call 50; refine (HS.out _ H.out).mono ?_; rw [HE.out]; rintro e w1 ⟨rfl, hb1⟩; have hq1 := Lib.hid hb1; have hs1 := hb1.size; clear hb1)
    go_ret
    exact ⟨rfl, H.out.under hq1.out, Out.of_below hq1.out⟩
  | true =>
    have HE := Lib.hid hsee
    have e1 : σ.skip ⟨5, s⟩ = (true, σ.tail) := by unfold PS.skip; rw [if_pos hsee]
    rw [e1]
    clear e1
    obtain ⟨ts, st, at_⟩ := σ
    cases ts with
    | nil => 
      have := sees_pos hsee (show (5:Nat) ≠ 0 by decide)
      simp at this
    | cons t r =>
      clear hsee
      obtain ⟨i, b, off, h0, hi, hd, ha, hbR, hb, q0, q1, q2, q3, hf, _⟩ := h.head rfl
      have HB := Lib.hid hb
      have HD := Lib.hid hd
      have HA := Lib.hid ha
      have HI := Lib.hid hi
      have hi6 := H.out.len
      subst h0
      clear h hb hd ha q0 q1 q2 q3 hf
      go_enter Try.func55, Try.ntmps55
      go_wp2_with (go_at_call 50; refine (HS.out _ H.out).mono ?_; rw [HE.out]; rintro e w1 ⟨rfl, hb1⟩; have hq1 := Lib.hid hb1; have hs1 := hb1.size; have bx1 := HB.out.below hb1; clear hb1; obtain ⟨_, _, _, _, _⟩ := five_cells bx1; obtain ⟨_, _, _, _, _⟩ := five_frozen bx1; clear bx1; have hR9 : c.R < w1.heap.size := (by omega))
      rw [show (i : Int) + 1 = ((i + 1 : Nat) : Int) from rfl]
      have hO := (Out.of_below (S := fun b => b = c.R) hq1.out).set1 1 (.int .i64 ((i + 1 : Nat) : Int))
      have hX := (HB.out.below hq1.out).set 1 (.int .i64 ((i + 1 : Nat) : Int))
      have hdr : r = c.ts.drop (i + 1) := by
        have := congrArg List.tail HD.out
        rw [List.tail_drop] at this; exact this.symm
      go_ret
      exact ⟨rfl, H.out.turn hO ⟨i + 1, HI.out, by rw [HA.out]; exact hX, fun _ => hdr, fun e => nomatch e⟩, hO⟩

end Go.Proofs.Ytgkeblpjmfdhkaa

namespace Go.Proofs.Ytgkeblpjmfdhkaa
open Go.RowKit Go.Maps
set_option linter.unusedVariables false
set_option linter.unusedSimpArgs false

/-- Stores into newer blocks: the parser stays. -/
theorem RP.keep {c : Px} {w w' : World} {σ : PS} (h : RP c w σ) (hb : ∀ b, b ≤ c.R → w'.heap[b]? = w.heap[b]?) : RP c w' σ := by
  obtain ⟨i, h0, h1, h2⟩ := h.box
  exact ⟨⟨i, h0, (hb _ (Nat.le_refl _)).trans h1, h2⟩, h.tr.agreeR fun b hb' => hb b (Nat.le_of_lt hb'), h.cap, h.fit, h.okk, h.len⟩

set_option maxRecDepth 100000 in
set_option maxHeartbeats 4000000 in
theorem y_eat (c : Px) (σ : PS) (w : World) (h : RP c w σ) (s : Srt) (hs : s.ask) (h0 : s.k ≠ 0) : Calls Try.prog 51 #[.pointer (some ⟨c.R, 0, none⟩), .int .i64 (s.k : Int), .string (strB s.s)] w fun e w' =>
    e = .returned (tkV (σ.take c.En s).1) ∧ RP c w' (σ.take c.En s).2 ∧ Out (fun b => b = c.R) w w' := by
  have H := Lib.hid h
  have hR := h.lt
  obtain ⟨SS, hSS⟩ : ∃ SS, strB s.s = SS := ⟨_, rfl⟩
  obtain ⟨KK, hKK⟩ : ∃ KK : Int, (s.k : Int) = KK := ⟨_, rfl⟩
  have HS : Hid (∀ W, RP c W σ → Calls Try.prog 50 #[.pointer (some ⟨c.R, 0, none⟩), .int .i64 KK, .string SS] W fun e w' => e = .returned (.bool (σ.sees s)) ∧ Below W.heap.size W w') := fun W hW => by
    have := y_peek c σ W hW s hs; rwa [hSS, hKK] at this
  rw [hSS, hKK]
  clear hSS hKK
  have hW : Below w.heap.size w (w.alloc (.cells #[.int .i64 0, .int .i64 0, .string ⟨#[]⟩, .int .i64 0] 103)) := by go_grown
  have H1 := Lib.hid (h.under hW)
  have HW := Lib.hid hW
  have bt := Lib.hid (Box.new w 103 [.int .i64 0, .int .i64 0, .string ⟨#[]⟩, .int .i64 0])
  have hsz : (w.alloc (.cells #[.int .i64 0, .int .i64 0, .string ⟨#[]⟩, .int .i64 0] 103)).heap.size = w.heap.size + 1 := by simp
  cases hsee : σ.sees s with
  | false =>
    have HE := Lib.hid hsee
    have e1 : σ.take c.En s = (Tk.zero, σ.stop c.En) := by unfold PS.take; rw [if_neg (by rw [hsee]; decide)]
    rw [e1]
    clear hsee e1 h hW
    go_enter Try.func51, Try.ntmps51
    go_wp2_with (first
      | (go_at_call 50; refine (HS.out _ H1.out).mono ?_; rw [HE.out]; rintro e w1 ⟨rfl, hb1⟩; have hq1 := Lib.hid hb1; have hs1 := hb1.size; clear hb1)
      | (go_at_call 101; refine (y_fail c σ _ (H1.out.under hq1.out)).mono ?_; rintro e w2 ⟨rfl, hr2, ho2⟩; have bt2 := ho2.box (bt.out.below hq1.out) (show ¬ (_ = c.R) by omega); have HR2 := Lib.hid hr2; have HO2 := Lib.hid ho2; have hs2 := ho2.size; clear hr2 ho2; obtain ⟨_, _, _, _⟩ := four_cells bt2; obtain ⟨_, _, _, _⟩ := four_frozen bt2))
    refine bodyPost_ret (v := tkV Tk.zero) (by simp only [results, Try.results51]; go_simp; rfl) rfl ⟨rfl, ?_, ?_⟩
    · exact HR2.out.keep fun k hk => heap_set4 _ _ _ _ _ _ (by omega)
    · refine out_set4 ?_ (Nat.le_refl _) _ _ _ _
      exact (Out.of_below (HW.out.trans (hq1.out.mono (by omega)))).trans HO2.out
  | true =>
    have HE := Lib.hid hsee
    have e1 : σ.take c.En s = (σ.head, σ.tail) := by unfold PS.take; rw [if_pos hsee]
    rw [e1]
    clear e1
    obtain ⟨ts, st, at_⟩ := σ
    cases ts with
    | nil => 
      have := sees_pos hsee h0
      simp at this
    | cons t r =>
      clear hsee
      obtain ⟨i, b, off, h0', hi, hd, ha, hbR, hb, q0, q1, q2, q3, hf, _⟩ := h.head rfl
      have HB := Lib.hid (hb.below HW.out)
      have HD := Lib.hid hd
      have HA := Lib.hid ha
      have HI := Lib.hid hi
      have hi6 := H.out.len
      have hcap := H.out.cap
      subst h0'
      have HC4 := Lib.hid (And.intro q0 (And.intro q1 (And.intro q2 q3)))
      have T9 : ∀ W, Sem.run Try.prog (Instr.indexAt 81 (.slice (some ⟨b, off, none⟩) c.ts.length c.cp) (.int .i64 (i : Int))) W = .ok (.pointer (some ⟨b, off + i * 4, none⟩)) W := fun W => by go_simp
      clear h hb hd ha q0 q1 q2 q3 hf hW
      go_enter Try.func51, Try.ntmps51
      go_wp2_with (go_at_call 50; refine (HS.out _ H1.out).mono ?_; rw [HE.out]; rintro e w1 ⟨rfl, hb1⟩; have hq1 := Lib.hid hb1; have hs1 := hb1.size; have bx1 := HB.out.below hb1; have bt2 := bt.out.below hb1; clear hb1; obtain ⟨_, _, _, _, _⟩ := five_cells bx1; obtain ⟨_, _, _, _, _⟩ := five_frozen bx1; obtain ⟨_, _, _, _⟩ := four_cells bt2; obtain ⟨_, _, _, _⟩ := four_frozen bt2; clear bx1 bt2; have hq2 := HW.out.trans (hq1.out.mono (by omega)); have z0 := (hq2.cell (p := ⟨b, off + i * 4, none⟩) (by show b < _; omega)).trans HC4.out.1; have z1 := (hq2.cell (p := ⟨b, off + i * 4 + 1, none⟩) (by show b < _; omega)).trans HC4.out.2.1; have z2 := (hq2.cell (p := ⟨b, off + i * 4 + 2, none⟩) (by show b < _; omega)).trans HC4.out.2.2.1; have z3 := (hq2.cell (p := ⟨b, off + i * 4 + 3, none⟩) (by show b < _; omega)).trans HC4.out.2.2.2; have HQ := Lib.hid hq2; clear hq2; have hb9 : b < w1.heap.size := (by omega); have hne : b ≠ c.R := (by omega); have hne3 : b ≠ w.heap.size := (by omega); have hne4 : w.heap.size ≠ c.R := (by omega); have hw9 : w.heap.size < w1.heap.size := (by omega); have hR9 : c.R < w1.heap.size := (by omega))
      go_region
      all_goals go_wp2_with fail
      all_goals
        rw [show (i : Int) + 1 = ((i + 1 : Nat) : Int) from rfl]
        have hO := (Out.of_below (S := fun b => b = c.R) HQ.out).set1 1 (.int .i64 ((i + 1 : Nat) : Int))
        have hO2 := (out_set4 hO (Nat.le_refl _) (.int .i64 (t.k : Int)) (.int .i64 (t.p : Int)) (.string (strB t.s)) (.int .i64 (t.n : Int))).drewN 1
        have hX := (HB.out.below hq1.out).set 1 (.int .i64 ((i + 1 : Nat) : Int))
        have hdr : r = c.ts.drop (i + 1) := by
          have := congrArg List.tail HD.out
          rw [List.tail_drop] at this; exact this.symm
        refine bodyPost_ret (v := tkV t) (by simp only [results, Try.results51]; go_simp; rfl) rfl ⟨rfl, ?_, hO2⟩
        refine H.out.turn hO2 ⟨i + 1, HI.out, ?_, fun _ => hdr, fun e => nomatch e⟩
        rw [HA.out]
        exact (heap_set4 _ _ _ _ _ _ (Ne.symm hne4)).trans hX

end Go.Proofs.Ytgkeblpjmfdhkaa

namespace Go.Proofs.Ytgkeblpjmfdhkaa
open Go.RowKit Go.Maps
set_option linter.unusedVariables false
set_option linter.unusedSimpArgs false

set_option maxRecDepth 100000 in
set_option maxHeartbeats 4000000 in
theorem y_sign (c : Px) (σ : PS) (w : World) (h : RP c w σ) (s : By) (hs : (⟨5, s⟩ : Srt).ask) : Calls Try.prog 53 #[.pointer (some ⟨c.R, 0, none⟩), .string (strB s)] w fun e w' =>
    e = .returned (.tuple #[]) ∧ RP c w' (σ.take c.En ⟨5, s⟩).2 ∧ Out (fun b => b = c.R) w w' := by
  have H := Lib.hid h
  have hR := h.lt
  obtain ⟨SS, hSS⟩ : ∃ SS, strB s = SS := ⟨_, rfl⟩
  have HS : Hid (∀ W, RP c W σ → Calls Try.prog 51 #[.pointer (some ⟨c.R, 0, none⟩), .int .i64 5, .string SS] W fun e w' => (∃ a0 a1 a2 a3 : Value, e = .returned (.agg #[a0, a1, a2, a3])) ∧ RP c w' (σ.take c.En ⟨5, s⟩).2 ∧ Out (fun b => b = c.R) W w') := fun W hW => by
    have := (y_eat c σ W hW ⟨5, s⟩ hs (show (5 : Nat) ≠ 0 by decide)).mono (R' := fun e w' => (∃ a0 a1 a2 a3 : Value, e = .returned (.agg #[a0, a1, a2, a3])) ∧ RP c w' (σ.take c.En ⟨5, s⟩).2 ∧ Out (fun b => b = c.R) W w') fun e w' ⟨h1, h2⟩ => ⟨⟨_, _, _, _, h1⟩, h2⟩
    rwa [hSS] at this
  rw [hSS]
  clear hSS h
  go_enter Try.func53, Try.ntmps53
  go_wp2_with (go_at_call 51; refine (HS.out _ H.out).mono ?_; rintro e w1 ⟨⟨a0, a1, a2, a3, rfl⟩, hr1, ho1⟩; have HR1 := Lib.hid hr1; have HO1 := Lib.hid ho1; clear hr1 ho1)
  go_end0
  exact ⟨rfl, HR1.out, HO1.out⟩

end Go.Proofs.Ytgkeblpjmfdhkaa

namespace Go.Proofs.Ytgkeblpjmfdhkaa
open Go.RowKit Go.Maps
set_option linter.unusedVariables false
set_option linter.unusedSimpArgs false

/-- From W0 on: the parser alone was turned, and stands at σ. -/
structure Cay (c : Px) (W0 w : World) (σ : PS) : Prop where
  rd : RP c w σ
  out : Out (fun b => b = c.R) W0 w
  lt : c.R < W0.heap.size
theorem Cay.start {c : Px} {w : World} {σ : PS} (h : RP c w σ) : Cay c w w σ := ⟨h, Out.refl _ _, h.lt⟩
theorem Cay.size {c : Px} {W0 w : World} {σ : PS} (h : Cay c W0 w σ) : W0.heap.size ≤ w.heap.size := h.out.size
theorem Cay.next {c : Px} {W0 w w' : World} {σ σ' : PS} (h : Cay c W0 w σ) (hr : RP c w' σ') (ho : Out (fun b => b = c.R) w w') : Cay c W0 w' σ' := ⟨hr, h.out.trans ho, h.lt⟩
theorem Cay.under {c : Px} {W0 w w' : World} {σ : PS} (h : Cay c W0 w σ) (hb : Below w.heap.size w w') : Cay c W0 w' σ := ⟨h.rd.under hb, h.out.next hb, h.lt⟩
theorem Cay.alloc {c : Px} {W0 w : World} {σ : PS} (h : Cay c W0 w σ) (o : Obj) : Cay c W0 (w.alloc o) σ := h.under ((Below.refl _ w).alloc (Nat.le_refl _) o)
theorem RP.drewN {c : Px} {w : World} {σ : PS} (h : RP c w σ) (n : Nat) : RP c (w.drewN n) σ := h.under ⟨rfl, rfl, rfl, Nat.le_refl _, fun _ _ => rfl⟩
theorem Cay.drew {c : Px} {W0 w : World} {σ : PS} (h : Cay c W0 w σ) : Cay c W0 w.drew σ := h.under ⟨rfl, rfl, rfl, Nat.le_refl _, fun _ _ => rfl⟩
theorem Cay.drewN {c : Px} {W0 w : World} {σ : PS} (h : Cay c W0 w σ) (n : Nat) : Cay c W0 (w.drewN n) σ := h.under ⟨rfl, rfl, rfl, Nat.le_refl _, fun _ _ => rfl⟩
theorem Cay.box {c : Px} {W0 w : World} {σ : PS} (h : Cay c W0 w σ) {b : Nat} {t : TypeId} {cs : List Value} (hb : Box W0 b t cs) (hn : b ≠ c.R) : Box w b t cs := h.out.box hb hn
/-- A row of this call's own is turned. -/
theorem Cay.grown {c : Px} {W W0 w w' : World} {σ0 σ : PS} (h : Cay c W0 w σ) (h0 : Cay c W0 W σ0) (ho : Out (fun b => b = c.R) W w) {row : Option Nat} (hg : w.grownBy w' row) (hr : ∀ q, row = some q → W.heap.size ≤ q) : Cay c W0 w' σ ∧ Out (fun b => b = c.R) W w' :=
  ⟨⟨h.rd.keep fun k hk => hg.block k (Nat.lt_of_le_of_lt hk h.rd.lt) (fun e => by have := hr k e.symm; have := h0.rd.lt; omega), h.out.grown hg fun q hq => .inr (Nat.le_trans h0.size (hr q hq)), h.lt⟩, ho.grown hg fun q hq => .inr (hr q hq)⟩
/-- Begin behind the result's block. -/
theorem Cay.begin {c : Px} {W0 W : World} {σ : PS} (h : Cay c W0 W σ) (o : Obj) : Cay c (W.alloc o) (W.alloc o) σ := Cay.start (h.rd.alloc o)
theorem Cay.res {c : Px} {W w : World} {τ : PS} {t : TypeId} {cs : List Value} (hc : Cay c (W.alloc (.cells cs.toArray t)) w τ) (hR : c.R < W.heap.size) : Box w W.heap.size t cs := hc.box (Box.new W t cs) (by omega)
theorem finY {c : Px} {W0 W w w' : World} {σ τ : PS} {o : Obj} (h : Cay c W0 W σ) (hc : Cay c (W.alloc o) w τ) (hn : Nb W.heap.size w w') : Cay c W0 w' τ ∧ Out (fun b => b = c.R) W w' := by
  have hsz : (W.alloc o).heap.size = W.heap.size + 1 := by simp
  have h1 := hc.out.size
  have hlt := h.rd.lt
  have ho : Out (fun b => b = c.R) W w' := ⟨hn.os.trans hc.out.os, hn.tape.trans hc.out.tape, hn.output.trans hc.out.output, by have := hn.size; omega, fun k hk hne =>
    (hn.block k (by omega) (by omega)).trans ((hc.out.block k (by omega) hne).trans (Below.heap_alloc W o k hk))⟩
  exact ⟨h.next (hc.rd.keep fun k hk => hn.block k (by omega) (by omega)) ho, ho⟩
/-- A thing, the parser behind it, nothing else turned; the thing is the mathematics' own unless the parser has stopped. -/
def TellsY {α : Type} (c : Px) (W0 W : World) (cs : α → List Cl) (r : α × PS) (e : Ending) (w' : World) : Prop :=
  ∃ v x, e = .returned v ∧ IsV (New W0) w' (cs x) v ∧ (r.2.st = false → x = r.1) ∧ Cay c W0 w' r.2 ∧ Out (fun b => b = c.R) W w'
theorem tellsY {α : Type} {c : Px} {W0 W w w' : World} {σ τ : PS} {o : Obj} {cs : α → List Cl} {r : α × PS} {v : Value} (h : Cay c W0 W σ) (hc : Cay c (W.alloc o) w τ) (hn : Nb W.heap.size w w') (hr : r.2 = τ) (x : α) (hx : r.2.st = false → x = r.1) (hv : IsV (New (W.alloc o)) w (cs x) v) : TellsY c W0 W cs r (.returned v) w' :=
  ⟨v, x, rfl, finV h.size hv hn, hx, hr ▸ (finY h hc hn).1, (finY h hc hn).2⟩

theorem askName : sName.ask := ⟨⟨by decide, by decide⟩, .inl ⟨rfl, .inl rfl⟩⟩
theorem askCon : sCon.ask := ⟨⟨by decide, by decide⟩, .inl ⟨rfl, .inr (.inl rfl)⟩⟩
theorem askInt : sInt.ask := ⟨⟨by decide, by decide⟩, .inl ⟨rfl, .inr (.inr rfl)⟩⟩
theorem askW {s : By} (h : s ≠ []) (hl : s.length ≤ 1000000) : (sW s).ask := ⟨⟨by show 4 ≤ 10; decide, hl⟩, .inr ⟨h, .inl rfl⟩⟩
theorem askS {s : By} (h : s ≠ []) (hl : s.length ≤ 1000000) : (sS s).ask := ⟨⟨by show 5 ≤ 10; decide, hl⟩, .inr ⟨h, .inr rfl⟩⟩

theorem c_peek {c : Px} {W0 W : World} {σ : PS} (h : Cay c W0 W σ) (s : Srt) (hs : s.ask) {K : Int} {S : ByteArray} (hK : (s.k : Int) = K) (hS : strB s.s = S) {A : Bool} (hA : σ.sees s = A) :
    Calls Try.prog 50 #[.pointer (some ⟨c.R, 0, none⟩), .int .i64 K, .string S] W fun e w' => e = .returned (.bool A) ∧ Cay c W0 w' σ ∧ Out (fun b => b = c.R) W w' := by
  subst hA hK hS
  exact (y_peek c σ W h.rd s hs).mono fun e w' ⟨h1, h2⟩ => ⟨h1, h.under h2, Out.of_below h2⟩
theorem c_eat {c : Px} {W0 W : World} {σ : PS} (h : Cay c W0 W σ) (s : Srt) (hs : s.ask) (h0 : s.k ≠ 0) {K : Int} {S : ByteArray} (hK : (s.k : Int) = K) (hS : strB s.s = S) {A : Tk × PS} (hA : σ.take c.En s = A) :
    Calls Try.prog 51 #[.pointer (some ⟨c.R, 0, none⟩), .int .i64 K, .string S] W fun e w' =>
      e = .returned (.agg #[.int .i64 (A.1.k : Int), .int .i64 (A.1.p : Int), .string (strB A.1.s), .int .i64 (A.1.n : Int)]) ∧ Cay c W0 w' A.2 ∧ Out (fun b => b = c.R) W w' := by
  subst hA hK hS
  exact (y_eat c σ W h.rd s hs h0).mono fun e w' ⟨h1, h2, h3⟩ => ⟨h1, h.next h2 h3, h3⟩
theorem c_sign {c : Px} {W0 W : World} {σ : PS} (h : Cay c W0 W σ) (s : By) (hs : (sS s).ask) {S : ByteArray} (hS : strB s = S) {A : Tk × PS} (hA : σ.take c.En (sS s) = A) :
    Calls Try.prog 53 #[.pointer (some ⟨c.R, 0, none⟩), .string S] W fun e w' => e = .returned (.tuple #[]) ∧ Cay c W0 w' A.2 ∧ Out (fun b => b = c.R) W w' := by
  subst hA hS
  exact (y_sign c σ W h.rd s hs).mono fun e w' ⟨h1, h2, h3⟩ => ⟨h1, h.next h2 h3, h3⟩
theorem c_try {c : Px} {W0 W : World} {σ : PS} (h : Cay c W0 W σ) (s : By) (hs : (sS s).ask) {S : ByteArray} (hS : strB s = S) {A : Bool × PS} (hA : σ.skip (sS s) = A) :
    Calls Try.prog 55 #[.pointer (some ⟨c.R, 0, none⟩), .string S] W fun e w' => e = .returned (.bool A.1) ∧ Cay c W0 w' A.2 ∧ Out (fun b => b = c.R) W w' := by
  subst hA hS
  exact (y_try c σ W h.rd s hs).mono fun e w' ⟨h1, h2, h3⟩ => ⟨h1, h.next h2 h3, h3⟩
theorem c_fail {c : Px} {W0 W : World} {σ : PS} (h : Cay c W0 W σ) :
    Calls Try.prog 101 #[.pointer (some ⟨c.R, 0, none⟩)] W fun e w' => e = .returned (.tuple #[]) ∧ Cay c W0 w' (σ.stop c.En) ∧ Out (fun b => b = c.R) W w' :=
  (y_fail c σ W h.rd).mono fun e w' ⟨h1, h2, h3⟩ => ⟨h1, h.next h2 h3, h3⟩

end Go.Proofs.Ytgkeblpjmfdhkaa

namespace Go.Proofs.Ytgkeblpjmfdhkaa
open Go.RowKit Go.Maps
set_option linter.unusedVariables false
set_option linter.unusedSimpArgs false

theorem peekQ {c : Px} {w : World} {σ : PS} (h : RP c w σ) (s : Srt) (hs : s.ask) {K : Int} {S : ByteArray} (hK : (s.k : Int) = K) (hS : strB s.s = S) {A : Bool} (hA : σ.sees s = A) :
    ∀ W, (∃ m, W = w.drewN m) → Calls Try.prog 50 #[.pointer (some ⟨c.R, 0, none⟩), .int .i64 K, .string S] W fun e w' => e = .returned (.bool A) ∧ ∃ n, w' = w.drewN n := by
  subst hA hK hS
  rintro W ⟨m, rfl⟩
  exact (y_peekN c σ (w.drewN m) (h.drewN m) s hs).mono fun e w' ⟨h1, n, h2⟩ => ⟨h1, m + n, by rw [h2, World.drewN_drewN]⟩
theorem atom_sees (σ : PS) : σ.seesAtom = (σ.sees sName || σ.sees sCon || σ.sees sInt || σ.sees (sW tTrue) || σ.sees (sW tFalse) || σ.sees (sS tLpar)) := by
  unfold PS.seesAtom PS.sees
  generalize σ.next = s
  unfold beg
  split
  · rename_i e; subst e; decide
  · split
    · rename_i e; subst e; decide
    · split
      · rename_i e; subst e; decide
      · split
        · rename_i e; subst e; decide
        · split
          · rename_i e; subst e; decide
          · rename_i e1 e2 e3 e4 e5
            simp only [e1, e2, e3, e4, e5, decide_false, Bool.false_or]
            repeat' split
            all_goals (first | (rename_i e; subst e; decide) | (simp_all [isLeaf]))

set_option maxRecDepth 100000 in
set_option maxHeartbeats 4000000 in
theorem y_atypic (c : Px) (σ : PS) (w : World) (h : RP c w σ) : Calls Try.prog 102 #[.pointer (some ⟨c.R, 0, none⟩)] w fun e w' => e = .returned (.bool σ.seesType) ∧ ∃ n, w' = w.drewN n := by
  cases hs0 : σ.sees sName with
  | true =>
    have hv : σ.seesType = true := by unfold PS.seesType; simp [hs0]
    rw [hv]
    have P0 := Lib.hid (peekQ h sName askName (K := 1) (S := ⟨#[]⟩) rfl rfl hs0)
    have HD : Hid (∃ m, w = w.drewN m) := ⟨0, rfl⟩
    clear h hv hs0
    go_enter Try.func102, Try.ntmps102
    go_wp2_with (first | (go_at_call 50; (with_reducible refine (P0.out _ HD.out).mono ?_); clear P0 HD; rintro e w1 ⟨rfl, HD⟩; replace HD := Lib.hid HD))
    go_ret
    exact ⟨rfl, HD.out⟩
  | false =>
    cases hs1 : σ.sees sCon with
    | true =>
      have hv : σ.seesType = true := by unfold PS.seesType; simp [hs0, hs1]
      rw [hv]
      have P0 := Lib.hid (peekQ h sName askName (K := 1) (S := ⟨#[]⟩) rfl rfl hs0)
      have P1 := Lib.hid (peekQ h sCon askCon (K := 2) (S := ⟨#[]⟩) rfl rfl hs1)
      have HD : Hid (∃ m, w = w.drewN m) := ⟨0, rfl⟩
      clear h hv hs0 hs1
      go_enter Try.func102, Try.ntmps102
      go_wp2_with (first | (go_at_call 50; (with_reducible refine (P0.out _ HD.out).mono ?_); clear P0 HD; rintro e w1 ⟨rfl, HD⟩; replace HD := Lib.hid HD) | (go_at_call 50; (with_reducible refine (P1.out _ HD.out).mono ?_); clear P1 HD; rintro e w1 ⟨rfl, HD⟩; replace HD := Lib.hid HD))
      go_ret
      exact ⟨rfl, HD.out⟩
    | false =>
      cases hs2 : σ.sees (sS tLpar) with
      | true =>
        have hv : σ.seesType = true := by unfold PS.seesType; simp [hs0, hs1, hs2]
        rw [hv]
        have P0 := Lib.hid (peekQ h sName askName (K := 1) (S := ⟨#[]⟩) rfl rfl hs0)
        have P1 := Lib.hid (peekQ h sCon askCon (K := 2) (S := ⟨#[]⟩) rfl rfl hs1)
        have P2 := Lib.hid (peekQ h (sS tLpar) (askS (by decide) (by decide)) (K := 5) (S := ⟨#[40]⟩) rfl rfl hs2)
        have HD : Hid (∃ m, w = w.drewN m) := ⟨0, rfl⟩
        clear h hv hs0 hs1 hs2
        go_enter Try.func102, Try.ntmps102
        go_wp2_with (first | (go_at_call 50; (with_reducible refine (P0.out _ HD.out).mono ?_); clear P0 HD; rintro e w1 ⟨rfl, HD⟩; replace HD := Lib.hid HD) | (go_at_call 50; (with_reducible refine (P1.out _ HD.out).mono ?_); clear P1 HD; rintro e w1 ⟨rfl, HD⟩; replace HD := Lib.hid HD) | (go_at_call 50; (with_reducible refine (P2.out _ HD.out).mono ?_); clear P2 HD; rintro e w1 ⟨rfl, HD⟩; replace HD := Lib.hid HD))
        go_ret
        exact ⟨rfl, HD.out⟩
      | false =>
        have hv : σ.seesType = false := by unfold PS.seesType; simp [hs0, hs1, hs2]
        rw [hv]
        have P0 := Lib.hid (peekQ h sName askName (K := 1) (S := ⟨#[]⟩) rfl rfl hs0)
        have P1 := Lib.hid (peekQ h sCon askCon (K := 2) (S := ⟨#[]⟩) rfl rfl hs1)
        have P2 := Lib.hid (peekQ h (sS tLpar) (askS (by decide) (by decide)) (K := 5) (S := ⟨#[40]⟩) rfl rfl hs2)
        have HD : Hid (∃ m, w = w.drewN m) := ⟨0, rfl⟩
        clear h hv hs0 hs1 hs2
        go_enter Try.func102, Try.ntmps102
        go_wp2_with (first | (go_at_call 50; (with_reducible refine (P0.out _ HD.out).mono ?_); clear P0 HD; rintro e w1 ⟨rfl, HD⟩; replace HD := Lib.hid HD) | (go_at_call 50; (with_reducible refine (P1.out _ HD.out).mono ?_); clear P1 HD; rintro e w1 ⟨rfl, HD⟩; replace HD := Lib.hid HD) | (go_at_call 50; (with_reducible refine (P2.out _ HD.out).mono ?_); clear P2 HD; rintro e w1 ⟨rfl, HD⟩; replace HD := Lib.hid HD))
        go_ret
        exact ⟨rfl, HD.out⟩

set_option maxRecDepth 100000 in
set_option maxHeartbeats 4000000 in
theorem y_atomic (c : Px) (σ : PS) (w : World) (h : RP c w σ) : Calls Try.prog 106 #[.pointer (some ⟨c.R, 0, none⟩)] w fun e w' => e = .returned (.bool σ.seesAtom) ∧ ∃ n, w' = w.drewN n := by
  cases hs0 : σ.sees sName with
  | true =>
    have hv : σ.seesAtom = true := by rw [atom_sees]; simp [hs0]
    rw [hv]
    have P0 := Lib.hid (peekQ h sName askName (K := 1) (S := ⟨#[]⟩) rfl rfl hs0)
    have HD : Hid (∃ m, w = w.drewN m) := ⟨0, rfl⟩
    clear h hv hs0
    go_enter Try.func106, Try.ntmps106
    go_wp2_with (first | (go_at_call 50; (with_reducible refine (P0.out _ HD.out).mono ?_); clear P0 HD; rintro e w1 ⟨rfl, HD⟩; replace HD := Lib.hid HD))
    go_ret
    exact ⟨rfl, HD.out⟩
  | false =>
    cases hs1 : σ.sees sCon with
    | true =>
      have hv : σ.seesAtom = true := by rw [atom_sees]; simp [hs0, hs1]
      rw [hv]
      have P0 := Lib.hid (peekQ h sName askName (K := 1) (S := ⟨#[]⟩) rfl rfl hs0)
      have P1 := Lib.hid (peekQ h sCon askCon (K := 2) (S := ⟨#[]⟩) rfl rfl hs1)
      have HD : Hid (∃ m, w = w.drewN m) := ⟨0, rfl⟩
      clear h hv hs0 hs1
      go_enter Try.func106, Try.ntmps106
      go_wp2_with (first | (go_at_call 50; (with_reducible refine (P0.out _ HD.out).mono ?_); clear P0 HD; rintro e w1 ⟨rfl, HD⟩; replace HD := Lib.hid HD) | (go_at_call 50; (with_reducible refine (P1.out _ HD.out).mono ?_); clear P1 HD; rintro e w1 ⟨rfl, HD⟩; replace HD := Lib.hid HD))
      go_ret
      exact ⟨rfl, HD.out⟩
    | false =>
      cases hs2 : σ.sees sInt with
      | true =>
        have hv : σ.seesAtom = true := by rw [atom_sees]; simp [hs0, hs1, hs2]
        rw [hv]
        have P0 := Lib.hid (peekQ h sName askName (K := 1) (S := ⟨#[]⟩) rfl rfl hs0)
        have P1 := Lib.hid (peekQ h sCon askCon (K := 2) (S := ⟨#[]⟩) rfl rfl hs1)
        have P2 := Lib.hid (peekQ h sInt askInt (K := 3) (S := ⟨#[]⟩) rfl rfl hs2)
        have HD : Hid (∃ m, w = w.drewN m) := ⟨0, rfl⟩
        clear h hv hs0 hs1 hs2
        go_enter Try.func106, Try.ntmps106
        go_wp2_with (first | (go_at_call 50; (with_reducible refine (P0.out _ HD.out).mono ?_); clear P0 HD; rintro e w1 ⟨rfl, HD⟩; replace HD := Lib.hid HD) | (go_at_call 50; (with_reducible refine (P1.out _ HD.out).mono ?_); clear P1 HD; rintro e w1 ⟨rfl, HD⟩; replace HD := Lib.hid HD) | (go_at_call 50; (with_reducible refine (P2.out _ HD.out).mono ?_); clear P2 HD; rintro e w1 ⟨rfl, HD⟩; replace HD := Lib.hid HD))
        go_ret
        exact ⟨rfl, HD.out⟩
      | false =>
        cases hs3 : σ.sees (sW tTrue) with
        | true =>
          have hv : σ.seesAtom = true := by rw [atom_sees]; simp [hs0, hs1, hs2, hs3]
          rw [hv]
          have P0 := Lib.hid (peekQ h sName askName (K := 1) (S := ⟨#[]⟩) rfl rfl hs0)
          have P1 := Lib.hid (peekQ h sCon askCon (K := 2) (S := ⟨#[]⟩) rfl rfl hs1)
          have P2 := Lib.hid (peekQ h sInt askInt (K := 3) (S := ⟨#[]⟩) rfl rfl hs2)
          have P3 := Lib.hid (peekQ h (sW tTrue) (askW (by decide) (by decide)) (K := 4) (S := ⟨#[116, 114, 117, 101]⟩) rfl rfl hs3)
          have HD : Hid (∃ m, w = w.drewN m) := ⟨0, rfl⟩
          clear h hv hs0 hs1 hs2 hs3
          go_enter Try.func106, Try.ntmps106
          go_wp2_with (first | (go_at_call 50; (with_reducible refine (P0.out _ HD.out).mono ?_); clear P0 HD; rintro e w1 ⟨rfl, HD⟩; replace HD := Lib.hid HD) | (go_at_call 50; (with_reducible refine (P1.out _ HD.out).mono ?_); clear P1 HD; rintro e w1 ⟨rfl, HD⟩; replace HD := Lib.hid HD) | (go_at_call 50; (with_reducible refine (P2.out _ HD.out).mono ?_); clear P2 HD; rintro e w1 ⟨rfl, HD⟩; replace HD := Lib.hid HD) | (go_at_call 50; (with_reducible refine (P3.out _ HD.out).mono ?_); clear P3 HD; rintro e w1 ⟨rfl, HD⟩; replace HD := Lib.hid HD))
          go_ret
          exact ⟨rfl, HD.out⟩
        | false =>
          cases hs4 : σ.sees (sW tFalse) with
          | true =>
            have hv : σ.seesAtom = true := by rw [atom_sees]; simp [hs0, hs1, hs2, hs3, hs4]
            rw [hv]
            have P0 := Lib.hid (peekQ h sName askName (K := 1) (S := ⟨#[]⟩) rfl rfl hs0)
            have P1 := Lib.hid (peekQ h sCon askCon (K := 2) (S := ⟨#[]⟩) rfl rfl hs1)
            have P2 := Lib.hid (peekQ h sInt askInt (K := 3) (S := ⟨#[]⟩) rfl rfl hs2)
            have P3 := Lib.hid (peekQ h (sW tTrue) (askW (by decide) (by decide)) (K := 4) (S := ⟨#[116, 114, 117, 101]⟩) rfl rfl hs3)
            have P4 := Lib.hid (peekQ h (sW tFalse) (askW (by decide) (by decide)) (K := 4) (S := ⟨#[102, 97, 108, 115, 101]⟩) rfl rfl hs4)
            have HD : Hid (∃ m, w = w.drewN m) := ⟨0, rfl⟩
            clear h hv hs0 hs1 hs2 hs3 hs4
            go_enter Try.func106, Try.ntmps106
            go_wp2_with (first | (go_at_call 50; (with_reducible refine (P0.out _ HD.out).mono ?_); clear P0 HD; rintro e w1 ⟨rfl, HD⟩; replace HD := Lib.hid HD) | (go_at_call 50; (with_reducible refine (P1.out _ HD.out).mono ?_); clear P1 HD; rintro e w1 ⟨rfl, HD⟩; replace HD := Lib.hid HD) | (go_at_call 50; (with_reducible refine (P2.out _ HD.out).mono ?_); clear P2 HD; rintro e w1 ⟨rfl, HD⟩; replace HD := Lib.hid HD) | (go_at_call 50; (with_reducible refine (P3.out _ HD.out).mono ?_); clear P3 HD; rintro e w1 ⟨rfl, HD⟩; replace HD := Lib.hid HD) | (go_at_call 50; (with_reducible refine (P4.out _ HD.out).mono ?_); clear P4 HD; rintro e w1 ⟨rfl, HD⟩; replace HD := Lib.hid HD))
            go_ret
            exact ⟨rfl, HD.out⟩
          | false =>
            cases hs5 : σ.sees (sS tLpar) with
            | true =>
              have hv : σ.seesAtom = true := by rw [atom_sees]; simp [hs0, hs1, hs2, hs3, hs4, hs5]
              rw [hv]
              have P0 := Lib.hid (peekQ h sName askName (K := 1) (S := ⟨#[]⟩) rfl rfl hs0)
              have P1 := Lib.hid (peekQ h sCon askCon (K := 2) (S := ⟨#[]⟩) rfl rfl hs1)
              have P2 := Lib.hid (peekQ h sInt askInt (K := 3) (S := ⟨#[]⟩) rfl rfl hs2)
              have P3 := Lib.hid (peekQ h (sW tTrue) (askW (by decide) (by decide)) (K := 4) (S := ⟨#[116, 114, 117, 101]⟩) rfl rfl hs3)
              have P4 := Lib.hid (peekQ h (sW tFalse) (askW (by decide) (by decide)) (K := 4) (S := ⟨#[102, 97, 108, 115, 101]⟩) rfl rfl hs4)
              have P5 := Lib.hid (peekQ h (sS tLpar) (askS (by decide) (by decide)) (K := 5) (S := ⟨#[40]⟩) rfl rfl hs5)
              have HD : Hid (∃ m, w = w.drewN m) := ⟨0, rfl⟩
              clear h hv hs0 hs1 hs2 hs3 hs4 hs5
              go_enter Try.func106, Try.ntmps106
              go_wp2_with (first | (go_at_call 50; (with_reducible refine (P0.out _ HD.out).mono ?_); clear P0 HD; rintro e w1 ⟨rfl, HD⟩; replace HD := Lib.hid HD) | (go_at_call 50; (with_reducible refine (P1.out _ HD.out).mono ?_); clear P1 HD; rintro e w1 ⟨rfl, HD⟩; replace HD := Lib.hid HD) | (go_at_call 50; (with_reducible refine (P2.out _ HD.out).mono ?_); clear P2 HD; rintro e w1 ⟨rfl, HD⟩; replace HD := Lib.hid HD) | (go_at_call 50; (with_reducible refine (P3.out _ HD.out).mono ?_); clear P3 HD; rintro e w1 ⟨rfl, HD⟩; replace HD := Lib.hid HD) | (go_at_call 50; (with_reducible refine (P4.out _ HD.out).mono ?_); clear P4 HD; rintro e w1 ⟨rfl, HD⟩; replace HD := Lib.hid HD) | (go_at_call 50; (with_reducible refine (P5.out _ HD.out).mono ?_); clear P5 HD; rintro e w1 ⟨rfl, HD⟩; replace HD := Lib.hid HD))
              go_ret
              exact ⟨rfl, HD.out⟩
            | false =>
              have hv : σ.seesAtom = false := by rw [atom_sees]; simp [hs0, hs1, hs2, hs3, hs4, hs5]
              rw [hv]
              have P0 := Lib.hid (peekQ h sName askName (K := 1) (S := ⟨#[]⟩) rfl rfl hs0)
              have P1 := Lib.hid (peekQ h sCon askCon (K := 2) (S := ⟨#[]⟩) rfl rfl hs1)
              have P2 := Lib.hid (peekQ h sInt askInt (K := 3) (S := ⟨#[]⟩) rfl rfl hs2)
              have P3 := Lib.hid (peekQ h (sW tTrue) (askW (by decide) (by decide)) (K := 4) (S := ⟨#[116, 114, 117, 101]⟩) rfl rfl hs3)
              have P4 := Lib.hid (peekQ h (sW tFalse) (askW (by decide) (by decide)) (K := 4) (S := ⟨#[102, 97, 108, 115, 101]⟩) rfl rfl hs4)
              have P5 := Lib.hid (peekQ h (sS tLpar) (askS (by decide) (by decide)) (K := 5) (S := ⟨#[40]⟩) rfl rfl hs5)
              have HD : Hid (∃ m, w = w.drewN m) := ⟨0, rfl⟩
              clear h hv hs0 hs1 hs2 hs3 hs4 hs5
              go_enter Try.func106, Try.ntmps106
              go_wp2_with (first | (go_at_call 50; (with_reducible refine (P0.out _ HD.out).mono ?_); clear P0 HD; rintro e w1 ⟨rfl, HD⟩; replace HD := Lib.hid HD) | (go_at_call 50; (with_reducible refine (P1.out _ HD.out).mono ?_); clear P1 HD; rintro e w1 ⟨rfl, HD⟩; replace HD := Lib.hid HD) | (go_at_call 50; (with_reducible refine (P2.out _ HD.out).mono ?_); clear P2 HD; rintro e w1 ⟨rfl, HD⟩; replace HD := Lib.hid HD) | (go_at_call 50; (with_reducible refine (P3.out _ HD.out).mono ?_); clear P3 HD; rintro e w1 ⟨rfl, HD⟩; replace HD := Lib.hid HD) | (go_at_call 50; (with_reducible refine (P4.out _ HD.out).mono ?_); clear P4 HD; rintro e w1 ⟨rfl, HD⟩; replace HD := Lib.hid HD) | (go_at_call 50; (with_reducible refine (P5.out _ HD.out).mono ?_); clear P5 HD; rintro e w1 ⟨rfl, HD⟩; replace HD := Lib.hid HD))
              go_ret
              exact ⟨rfl, HD.out⟩

theorem c_atypic {c : Px} {W0 W : World} {σ : PS} (h : Cay c W0 W σ) {A : Bool} (hA : σ.seesType = A) :
    Calls Try.prog 102 #[.pointer (some ⟨c.R, 0, none⟩)] W fun e w' => e = .returned (.bool A) ∧ Cay c W0 w' σ ∧ Out (fun b => b = c.R) W w' := by
  subst hA
  exact (y_atypic c σ W h.rd).mono fun e w' ⟨h1, n, h2⟩ => ⟨h1, by subst h2; exact h.drewN n, by subst h2; exact (Out.refl _ _).drewN n⟩
theorem c_atomic {c : Px} {W0 W : World} {σ : PS} (h : Cay c W0 W σ) {A : Bool} (hA : σ.seesAtom = A) :
    Calls Try.prog 106 #[.pointer (some ⟨c.R, 0, none⟩)] W fun e w' => e = .returned (.bool A) ∧ Cay c W0 w' σ ∧ Out (fun b => b = c.R) W w' := by
  subst hA
  exact (y_atomic c σ W h.rd).mono fun e w' ⟨h1, n, h2⟩ => ⟨h1, by subst h2; exact h.drewN n, by subst h2; exact (Out.refl _ _).drewN n⟩

end Go.Proofs.Ytgkeblpjmfdhkaa
