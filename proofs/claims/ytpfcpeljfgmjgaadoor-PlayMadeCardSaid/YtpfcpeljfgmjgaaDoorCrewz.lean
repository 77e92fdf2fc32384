/- Contracts of package crew: By, Next; how turns lie in memory. -/
import Derived.Test.YtpfcpeljfgmjgaaDoorZpp
import Derived.Test.YtpfcpeljfgmjgaaDoorZpa
import Derived.Test.YtpfcpeljfgmjgaaDoorZpk
import Derived.Deep.RegionHeld3
import Derived.Deep.DeepCutAuto
import Derived.Deep.CutRange
namespace Go.Proofs.YtpfcpeljfgmjgaaDoor
open Go.RowKit
set_option linter.unusedVariables false
set_option linter.unusedSimpArgs false

/-- slices.Clone, with its room. -/
theorem clone_cap (a : Option Addr) (la ca : Nat) (xs : List Int) (w : World) {lo hi : Nat} (hx : Row lo hi w a la xs) (hhi : hi ≤ w.heap.size) (hm : la ≤ 1000000) :
    Calls Tryd.prog 96 #[.slice a la ca] w fun e w' => ∃ a' c', e = .returned (.slice a' la c') ∧ la ≤ c' ∧ Row w.heap.size w'.heap.size w' a' la xs ∧ Below w.heap.size w w' := by
  have hne := fun (w : World) (a : Option Addr) (n c : Nat) => Lib.run_eql_slice_nil (P := Tryd.prog) w 22 3 a n c 0 0 Tryd.underlying22
  cases a with
  | none =>
    have h0 : la = 0 := hx.nil_len
    subst h0
    go_enter Tryd.func96, Tryd.ntmps96
    go_wp2
    go_ret
    exact ⟨_, _, rfl, Nat.zero_le _, ⟨hx.1, .inl rfl⟩, Below.refl _ _⟩
  | some a =>
    obtain ⟨i0, hi0, hz0, hz1, hz2⟩ := info_parts Tryd.info3
    have hb0 : Below w.heap.size w (w.alloc (.cells #[] 3)) := (Below.refl _ _).alloc (Nat.le_refl _) _
    go_enter Tryd.func96, Tryd.ntmps96
    go_wp2_with (at_builtin; refine wpList_append_own _ rfl _ _ 22 rfl w.heap.size 3 i0 (.int .i64 0) 1 8 Tryd.underlying22 hi0 hz0 hz1 hz2 rfl (by decide) _ 0 [] rfl ?c0 a la ca (xs.map (Value.int .i64)) rfl ?c1 ?c2 ?c3 ?c4 ?c5 ?c6 ?_)
    case c0 => exact World.ownsRow_made w #[] 0 (Nat.le_refl _) (by decide) rfl
    case c1 => simp [hx.1]
    case c2 => exact (hx.alloc hhi _).news
    case c3 => exact ints_oneCell _ _
    case c4 => unfold maxLen; omega
    case c5 => omega
    case c6 => simp
    intro v' w1 hown hgr hnn
    have hb1 : Below w.heap.size w w1 := hb0.grown hgr (by simp) (by rintro k hk; cases hk; exact Nat.le_refl _)
    obtain ⟨a', c', rfl, hr⟩ := RowF.of_owns (f := Value.int .i64) (d := (0 : Int)) (xs := xs) (by rw [hx.1]; exact hown)
    have hc : la ≤ c' := by
      obtain ⟨_, ⟨he, h0⟩ | ⟨g, cap, cur, he, _, _, hcap, _⟩⟩ := hown
      · omega
      · cases he; omega
    clear hown hgr hnn hb0
    go_wp2
    go_ret
    rw [hx.1] at hr ⊢
    exact ⟨_, _, rfl, hc, hr, hb1⟩

theorem start_cap (a : Option Addr) (la ca : Nat) (xs : List Int) (w : World) {lo hi : Nat} (hx : Row lo hi w a la xs) (hhi : hi ≤ w.heap.size) (hm : la ≤ 1000000) :
    Calls Tryd.prog 69 #[.slice a la ca] w fun e w' => ∃ a' c', e = .returned (.agg #[.slice a' la c', .int .i64 0, .int .i64 (-1)]) ∧ la ≤ c' ∧ Row w.heap.size w'.heap.size w' a' la xs ∧ Below w.heap.size w w' := by
  have hg0 : ∀ o, Below w.heap.size w (w.alloc o) := fun o => by go_grown
  have b1 := Box.new w 88 [.slice none 0 0, .int .i64 0, .int .i64 0]
  go_enter Tryd.func69, Tryd.ntmps69
  go_wp2_with fail
  refine (clone_cap _ _ _ xs _ (hx.below (hg0 _) hhi) (by simp; omega) hm).mono ?_
  rintro e w1 ⟨a', c', rfl, hcap, hr, hb⟩
  have B1 := b1.below hb
  have s1 := hb.size
  rw [World.size_alloc] at s1
  have hb' := (hg0 (.cells #[.slice none 0 0, .int .i64 0, .int .i64 0] 88)).trans (hb.mono (by simp))
  obtain ⟨_, _, _, _, _, _⟩ := B1.three
  have HC := Lib.hid hcap
  clear hcap
  go_wp2
  refine bodyPost_ret (v := .agg #[.slice a' la c', .int .i64 0, .int .i64 (-1)]) (by simp only [results, Tryd.results69]; go_simp) rfl ⟨_, _, rfl, HC.out, ?_, ?_⟩
  · exact (((hr.set (.inl (by simp)) _).set (.inl (by simp)) _).set (.inl (by simp)) _).mono (by simp) (by simp)
  · exact ((hb'.setCell (by simp) _).setCell (by simp) _).setCell (by simp) _

/-- Turns in memory: the picks that have not been used, and who was last. -/
def Tn (w : World) (C lo hi : Nat) (xs : List Int) (t : Nat) (last : Int) : Prop :=
  ∃ a c, Box w C 129 [.slice a (xs.length - t) c, .int .i64 last] ∧ Row lo hi w a (xs.length - t) (xs.drop t) ∧ xs.length - t ≤ c ∧ hi ≤ C
theorem Tn.lt {w : World} {C lo hi t : Nat} {xs : List Int} {last : Int} (h : Tn w C lo hi xs t last) : C < w.heap.size := by
  obtain ⟨a, c, h1, _⟩ := h; exact h1.lt
theorem Tn.agree {w w' : World} {C lo hi t : Nat} {xs : List Int} {last : Int} (h : Tn w C lo hi xs t last) (hb : ∀ b, (b = C ∨ (lo ≤ b ∧ b < hi)) → w'.heap[b]? = w.heap[b]?) : Tn w' C lo hi xs t last := by
  obtain ⟨a, c, h1, h2, h3, h4⟩ := h
  exact ⟨a, c, (hb C (.inl rfl)).trans h1, h2.agree fun k h5 h6 => hb k (.inr ⟨h5, h6⟩), h3, h4⟩
theorem Tn.below {w w' : World} {C lo hi t B : Nat} {xs : List Int} {last : Int} (h : Tn w C lo hi xs t last) (hb : Below B w w') (hC : C < B) : Tn w' C lo hi xs t last :=
  h.agree fun b hb' => hb.block b (by obtain ⟨_, _, _, _, _, h4⟩ := h; rcases hb' with rfl | ⟨_, h⟩ <;> omega)

theorem by_any (a : Option Addr) (la ca : Nat) (xs : List Int) (w : World) {lo hi : Nat} (hx : Row lo hi w a la xs) (hhi : hi ≤ w.heap.size) (hm : la ≤ 1000000) :
    Calls Tryd.prog 38 #[.slice a la ca] w fun e w' => ∃ C, e = .returned (.pointer (some ⟨C, 0, none⟩)) ∧ Tn w' C w.heap.size C xs 0 (-1) ∧ w.heap.size ≤ C ∧ C < w'.heap.size ∧ Below w.heap.size w w' := by
  have hl : xs.length = la := hx.1
  have HL := Lib.hid hl
  clear hl
  go_enter Tryd.func38, Tryd.ntmps38
  go_wp2_with fail
  refine (start_cap _ _ _ xs _ hx hhi hm).mono ?_
  rintro e w1 ⟨a', c', rfl, hcap, hr, hb⟩
  have s1 := hb.size
  have HC := Lib.hid hcap
  have HR := Lib.hid hr
  have HB := Lib.hid hb
  clear hcap hr hb
  go_wp2
  go_ret
  refine ⟨w1.heap.size + 1, rfl, ⟨a', c', ?_, ?_, ?_, ?_⟩, by omega, by simp, (HB.out.alloc s1 _).alloc (by simp; omega) _⟩
  · rw [HL.out]
    have := Box.new (w1.alloc (.cells #[.slice a' la c', .int .i64 0, .int .i64 (-1)] 88)) 129 [.slice a' la c', .int .i64 (-1)]
    rw [World.size_alloc] at this
    exact this
  · rw [HL.out]
    exact ((HR.out.alloc (Nat.le_refl _) _).alloc (by simp) _).mono (Nat.le_refl _) (by omega)
  · rw [HL.out]; exact HC.out
  · omega

/-- A cut of a slice at its front, and one behind so many. -/
theorem run_head_any {P : Program} {t : TypeId} (ht : P.underlying t = some (.slice (P.elem t))) (hs : (P.info? (P.elem t)).map (fun i => i.size) = some 1) (a : Option Addr) (n cap m : Nat) (hm : m ≤ n) (hn : n ≤ cap) :
    ∃ a', (∀ b off, a = some ⟨b, off, none⟩ → 0 < m → a' = some ⟨b, off, none⟩) ∧ ∀ w, Sem.run P (Instr.slice t (.slice a n cap) none (some (.int .i64 (m : Int))) none) w = .ok (.slice a' m cap) w := by
  refine ⟨if cap = 0 then a else a.map (·.add 0), fun b off h hm0 => ?_, fun w => ?_⟩
  · subst h; rw [if_neg (by omega)]; simp [Addr.add]
  · rw [run_slice_h w t _ n cap ht .i64 m (by omega) (by omega)]
    obtain ⟨i, hi, he⟩ := Option.map_eq_some_iff.1 hs
    simp [sizeOf, typeInfo, hi, he, sliced, Result.andThen]
theorem run_skip_any {P : Program} {t : TypeId} (ht : P.underlying t = some (.slice (P.elem t))) (hs : (P.info? (P.elem t)).map (fun i => i.size) = some 1) (a : Option Addr) (n cap q : Nat) (hq : q ≤ n) (hn : n ≤ cap) :
    ∃ a', (∀ b off, a = some ⟨b, off, none⟩ → q < n → a' = some ⟨b, off + q, none⟩) ∧ ∀ w, Sem.run P (Instr.slice t (.slice a n cap) (some (.int .i64 (q : Int))) none none) w = .ok (.slice a' (n - q) (cap - q)) w := by
  refine ⟨if cap = q then a else a.map (·.add q), fun b off h hm0 => ?_, fun w => ?_⟩
  · subst h; rw [if_neg (by omega)]; simp [Addr.add]
  · rw [run_slice_l w t _ n cap ht .i64 q (by omega) (by omega)]
    obtain ⟨i, hi, he⟩ := Option.map_eq_some_iff.1 hs
    simp [sizeOf, typeInfo, hi, he, sliced, Result.andThen]
theorem RowF.head_any {lo hi : Nat} {w : World} {a a' : Option Addr} {n m : Nat} {xs : List Int} (h : Row lo hi w a n xs) (hm : m ≤ n) (ha : ∀ b off, a = some ⟨b, off, none⟩ → 0 < m → a' = some ⟨b, off, none⟩) : Row lo hi w a' m (xs.take m) := by
  obtain ⟨h1, h2⟩ := h
  refine ⟨by simp; omega, ?_⟩
  by_cases h0 : m = 0
  · exact .inl h0
  · obtain ⟨b, off, rfl, hl, hh, hc⟩ := h2.resolve_left (by omega)
    refine .inr ⟨b, off, ha b off rfl (by omega), hl, hh, fun i hi => ?_⟩
    rw [hc i (by omega)]
    simp [List.getD, List.getElem?_take, hi]
theorem RowF.skip_any {lo hi : Nat} {w : World} {a a' : Option Addr} {n q : Nat} {xs : List Int} (h : Row lo hi w a n xs) (hq : q ≤ n) (ha : ∀ b off, a = some ⟨b, off, none⟩ → q < n → a' = some ⟨b, off + q, none⟩) : Row lo hi w a' (n - q) (xs.drop q) := by
  obtain ⟨h1, h2⟩ := h
  refine ⟨by simp; omega, ?_⟩
  by_cases h0 : n - q = 0
  · exact .inl h0
  · obtain ⟨b, off, rfl, hl, hh, hc⟩ := h2.resolve_left (by omega)
    refine .inr ⟨b, off + q, ha b off rfl (by omega), hl, hh, fun i hi => ?_⟩
    rw [Nat.add_assoc, hc (q + i) (by omega)]
    simp [List.getD, List.getElem?_drop]

set_option maxRecDepth 100000 in
set_option maxHeartbeats 4000000 in
theorem turn_gen (w : World) (C : Nat) (a : Option Addr) (n ca : Nat) (zs : List Int) (last : Int) (b : Option Addr) (W cb : Nat) (en : List Bool) {lo hi lo2 hi2 : Nat} (hC : Box w C 129 [.slice a n ca, .int .i64 last])
    (hx : Row lo hi w a n zs) (hhi : hi ≤ C) (hcap : n ≤ ca) (hm : n ≤ 1000000) (hen : RowB lo2 hi2 w b W en) (hhi2 : hi2 ≤ w.heap.size) (h64 : W ≤ 1000) (hT : Tab w) (hCt : 0 < C)
    (v : Int) (q : Nat) (l' : Int) (hv : nextI (zs.take (min 1 n)) 0 last en = v) (hq : nextAt (zs.take (min 1 n)) 0 en = (q : Int)) (hl' : nextLast (zs.take (min 1 n)) 0 last en = l') (hqn : q ≤ n) :
    Calls Tryd.prog 39 #[.pointer (some ⟨C, 0, none⟩), .slice b W cb] w fun e w' =>
      e = .returned (.int .i64 v) ∧ ∃ a' c', Box w' C 129 [.slice a' (n - q) c', .int .i64 l'] ∧ Row lo hi w' a' (n - q) (zs.drop q) ∧ n - q ≤ c' ∧ Two C C w w' := by
  have hCl := hC.lt
  obtain ⟨m, hmm⟩ : ∃ m, min 1 n = m := ⟨_, rfl⟩
  rw [hmm] at hv hq hl'
  have hmn : m ≤ n := by omega
  have hmin : (if ((n : Nat) : Int) < 1 then ((n : Nat) : Int) else 1) = (m : Int) := by split <;> omega
  obtain ⟨ra, hra, hrun⟩ := run_head_any (P := Tryd.prog) (t := 22) Tryd.underlying22 (by kernel_rfl) a n ca m hmn hcap
  obtain ⟨rb, hrb, hrunb⟩ := run_skip_any (P := Tryd.prog) (t := 22) Tryd.underlying22 (by kernel_rfl) a n ca q hqn hcap
  have HSK := Lib.hid (fun (w' : World) (h : Row lo hi w' a n zs) => RowF.skip_any h hqn hrb)
  have hhead := hx.head_any hmn hra
  have c0 := hC.cell 0
  have c1 := hC.cell 1
  have f0 := hC.frozen 0
  have f1 := hC.frozen 1
  simp only [List.getElem?_cons_zero, List.getElem?_cons_succ] at c0 c1
  have HC := Lib.hid hC
  have HX := Lib.hid hx
  have HT := Lib.hid hT
  have HV := Lib.hid hv
  have HQ := Lib.hid hq
  have HL := Lib.hid hl'
  have HMM : Hid (m ≤ 1000000) := by show m ≤ 1000000; omega
  have HQN := Lib.hid hqn
  have HCAP := Lib.hid hcap
  have HEN := Lib.hid hen
  have HTL := hT.lt
  have HST : Hid (∀ w', Below w.heap.size w w' → Calls Tryd.prog 69 #[.slice ra m ca] w' fun e w'' => ∃ a' c', e = .returned (.agg #[.slice a' m c', .int .i64 0, .int .i64 (-1)]) ∧ Row w'.heap.size w''.heap.size w'' a' m (zs.take m) ∧ Below w'.heap.size w' w'') := fun w' h => by
    refine (Start_any ra m ca (zs.take m) w' (hhead.below h (by omega)) (by have := h.size; omega) HMM.out).mono ?_
    rintro e w'' ⟨a', c', h1, h2, h3⟩
    exact ⟨a', c', h1, h2, h3⟩
  have K : ∀ w', Below w.heap.size w w' → (Below w.heap.size w w' ∧ w'.cell? ⟨C, 0, none⟩ = some (.slice a n ca) ∧ w'.cell? ⟨C, 1, none⟩ = some (.int .i64 last)) := fun w' h => ⟨h, (hC.below h).cell 0, (hC.below h).cell 1⟩
  have HK := Lib.hid K
  clear hra hrb hhead hx hT hv hq hl' hqn hcap hen K hmm hC
  go_enter Tryd.func39, Tryd.ntmps39
  go_wp2_with fail
  go_cut [5] from 7 to 18 (fun s5 wx => ∃ p a1 c1 lo1 hi1, s5 = .pointer (some ⟨p, 0, none⟩) ∧ Box wx p 88 [.slice a1 m c1, .int .i64 0, .int .i64 (-1)] ∧ Row lo1 hi1 wx a1 m (zs.take m) ∧ w.heap.size ≤ p ∧ (p < lo1 ∨ hi1 ≤ p) ∧ hi1 ≤ wx.heap.size ∧ Below w.heap.size w wx)
  case first =>
    go_region_held3 (fun w' => Below w.heap.size w w' ∧ w'.cell? ⟨C, 0, none⟩ = some (.slice a n ca) ∧ w'.cell? ⟨C, 1, none⟩ = some (.int .i64 last))
      ((with_reducible apply HK.out
        first
        | ((with_reducible apply Below.drew); (with_reducible exact Below.refl _ _))
        | (with_reducible apply below_next (And.left (by assumption)) hbz (Nat.le_refl _))
        | ((with_reducible apply below_alloc (And.left (by assumption)) (Nat.le_refl _)))
        | ((with_reducible apply below_alloc HBz.out (Nat.le_refl _)))
        | ((with_reducible apply Below.drew); (with_reducible apply below_alloc (Below.refl _ _) (Nat.le_refl _)))
        | ((with_reducible apply below_set3' HBz.out); first | exact Nat.le_refl _ | assumption)))
      (first
        | (go_at_call 69; (with_reducible refine (HST.out _ ?_).mono ?_); exact And.left (by assumption); rintro e wz ⟨a1, cc1, rfl, hrz, hbz⟩; have HBz : Hid (Below w.heap.size w wz) := Lib.hid (below_next (And.left (by assumption)) hbz (Nat.le_refl _)); have HRz := Lib.hid hrz; have hzl := hbz.size; (try (have hbt := Box.below (Box.new w 88 [.slice none 0 0, .int .i64 0, .int .i64 0]).drew hbz; obtain ⟨_, _, _, _, _, _⟩ := Box.three hbt; have HBU := Lib.hid hbt; clear hbt)))
        | fail)
    all_goals (go_wp2_with fail; go_meet)
    · exact ⟨_, _, _, _, _, rfl, Box.new _ _ [.slice a1 m cc1, .int .i64 0, .int .i64 (-1)], HRz.out.alloc (Nat.le_refl _) _, HBz.out.size, .inr (Nat.le_refl _), by simp, below_alloc HBz.out (Nat.le_refl _) _⟩
    · exact ⟨_, _, _, _, _, rfl, (((HBU.out.set 0 (.slice a1 m cc1)).set 1 (.int .i64 0)).set 2 (.int .i64 (-1))), ((HRz.out.set (.inl (by simp)) _).set (.inl (by simp)) _).set (.inl (by simp)) _, Nat.le_refl _, .inl (by simp), by simp, below_set3' HBz.out (Nat.le_refl _)⟩
    · exact ⟨_, _, _, _, _, rfl, (((HBU.out.set 0 (.slice a1 m cc1)).set 1 (.int .i64 0)).set 2 (.int .i64 (-1))), ((HRz.out.set (.inl (by simp)) _).set (.inl (by simp)) _).set (.inl (by simp)) _, Nat.le_refl _, .inl (by simp), by simp, below_set3' HBz.out (Nat.le_refl _)⟩
  case rest =>
    obtain ⟨p, a1, c1', lo1, hi1, rfl, hbx, hrw, hpl, hpr, hh1, hb⟩ := hcut
    have hCx := HC.out.below hb
    have d0 := hCx.cell 0
    have d1 := hCx.cell 1
    have e0 := hCx.frozen 0
    have e1 := hCx.frozen 1
    simp only [List.getElem?_cons_zero, List.getElem?_cons_succ] at d0 d1
    obtain ⟨_, _, _, _, _, _⟩ := hbx.three
    have hpC : p ≠ C := by omega
    have hpC' : C ≠ p := by omega
    have hpl2 := hbx.lt
    have hcl2 := hCx.lt
    have HCX := Lib.hid hCx
    have HBX := Lib.hid hbx
    have HRW := Lib.hid hrw
    have HB := Lib.hid hb
    clear hCx hbx hrw hb c0 c1 f0 f1 hrun
    go_wp2_with fail
    have hbs : Below w.heap.size w (wc.setCell ⟨p, 2, none⟩ (.int .i64 last)) := HB.out.setCell (p := ⟨p, 2, none⟩) hpl _
    have hrs := HRW.out.set (p := ⟨p, 2, none⟩) hpr (.int .i64 last)
    have hbx3 := HBX.out.set 2 (.int .i64 last)
    have hcx3 := HCX.out.setOther (a := ⟨p, 2, none⟩) hpC' (.int .i64 last)
    have hen3 := HEN.out.below hbs hhi2
    have hT3 := HT.out.below hbs HTL
    have hws : wc.heap.size = (wc.setCell ⟨p, 2, none⟩ (.int .i64 last)).heap.size := by simp
    simp only [List.set_cons_zero, List.set_cons_succ] at hbx3
    generalize hwd : wc.setCell ⟨p, 2, none⟩ (.int .i64 last) = wd at *
    refine (Next_any a1 b m c1' W cb (zs.take m) en 0 last _ hrs (by omega) HMM.out hen3 (by have := hbs.size; omega) h64 hT3).mono ?_
    rw [HV.out, HQ.out, HL.out]
    rintro e w3 ⟨a2, c2, rfl, hr2, hb2⟩
    have s2 := hb2.size
    have hbx4 := hbx3.below hb2
    have hcx4 := hcx3.below hb2
    obtain ⟨_, _, _, _, _, _⟩ := hbx4.three
    have g0 := hcx4.cell 0
    have g1 := hcx4.cell 1
    have k0 := hcx4.frozen 0
    have k1 := hcx4.frozen 1
    simp only [List.getElem?_cons_zero, List.getElem?_cons_succ] at g0 g1
    have HB4 : Hid (Below w.heap.size w w3) := Lib.hid (hbs.trans (hb2.mono hbs.size))
    have hpl3 : p < w3.heap.size := by omega
    have hcl3 : C < w3.heap.size := by omega
    have HBX4 := Lib.hid hbx4
    have HCX4 := Lib.hid hcx4
    clear hbs hrs hbx3 hcx3 hen3 hT3 hwd hr2 hb2 hbx4 hcx4 d0 d1 e0 e1 s2 hws HBX HCX HRW
    go_wp2_with fail
    go_region
    go_wp2_with fail
    go_ret
    have ht : Two C C w _ := ((((((Two.of_below (b1 := C) (b2 := C) HB4.out).setNew (p := ⟨p, 0, none⟩) hpl (.slice a2 m c2)).setNew (p := ⟨p, 1, none⟩) hpl (.int .i64 (q : Int))).setNew (p := ⟨p, 2, none⟩) hpl (.int .i64 l')).set C 0 (.inl rfl) (.slice rb (n - q) (ca - q))).set C 1 (.inl rfl) (.int .i64 l')).drew
    refine ⟨rfl, rb, ca - q, ?_, HSK.out _ (HX.out.agree fun k h1 h2 => ht.block k (by omega) (by omega) (by omega)), by have := HCAP.out; omega, ht⟩
    exact (((((HCX4.out.setOther (a := ⟨p, 0, none⟩) hpC' _).setOther (a := ⟨p, 1, none⟩) hpC' _).setOther (a := ⟨p, 2, none⟩) hpC' _).set 0 _).set 1 _).drew

/-- Somebody goes on. -/
theorem next_on (w : World) (C lo hi : Nat) (xs : List Int) (t : Nat) (last : Int) (b : Option Addr) (W cb : Nat) (en : List Bool) {lo2 hi2 : Nat} (hC : Tn w C lo hi xs t last) (hm : xs.length ≤ 1000000)
    (hen : RowB lo2 hi2 w b W en) (hhi2 : hi2 ≤ w.heap.size) (h64 : W ≤ 1000) (hT : Tab w) (hCt : 0 < C) (hon : on 0 en ≠ []) (x : Nat) (hx : whoN xs t last en = x) :
    Calls Tryd.prog 39 #[.pointer (some ⟨C, 0, none⟩), .slice b W cb] w fun e w' =>
      e = .returned (.int .i64 (x : Int)) ∧ Tn w' C lo hi xs (t + 1) (x : Int) ∧ Two C C w w' := by
  obtain ⟨a, c, h1, h2, h3, h4⟩ := hC
  by_cases ht : t < xs.length
  · have hd : (xs.drop t).take (min 1 (xs.length - t)) = [xs.getD t 0] := by
      rw [show min 1 (xs.length - t) = 1 by omega, List.drop_eq_getElem_cons ht, List.take_succ_cons, List.take_zero]; simp [List.getD, ht]
    have hw : nextI [xs.getD t 0] 0 last en = (x : Int) := by
      unfold nextI
      rw [if_neg hon, if_pos (by simp), ← hx]
      unfold whoN
      rw [if_pos ht]; simp
    refine (turn_gen w C a (xs.length - t) c (xs.drop t) last b W cb en h1 h2 h4 h3 (by omega) hen hhi2 h64 hT hCt x 1 x (by rw [hd]; exact hw) (by rw [hd]; unfold nextAt; rw [if_neg hon, if_pos (by simp)]; rfl) (by rw [hd]; unfold nextLast; rw [if_neg hon]; exact hw) (by omega)).mono ?_
    rintro e w' ⟨rfl, a', c', k1, k2, k3, k4⟩
    rw [show xs.length - t - 1 = xs.length - (t + 1) by omega] at k1 k2 k3
    rw [List.drop_drop] at k2
    exact ⟨rfl, ⟨a', c', k1, k2, k3, h4⟩, k4⟩
  · have e0 : xs.length - t = 0 := by omega
    have e1 : xs.length - (t + 1) = 0 := by omega
    have hd : (xs.drop t).take (min 1 (xs.length - t)) = [] := by rw [e0]; simp
    have hw : nextI [] 0 last en = (x : Int) := by
      unfold nextI
      obtain ⟨z, _, hz⟩ := behindI_mem en last hon
      rw [if_neg hon, if_neg (by simp), ← hx]
      unfold whoN
      rw [if_neg ht, hz]; simp
    refine (turn_gen w C a (xs.length - t) c (xs.drop t) last b W cb en h1 h2 h4 h3 (by omega) hen hhi2 h64 hT hCt x 0 x (by rw [hd]; exact hw) (by rw [hd]; unfold nextAt; rw [if_neg hon, if_neg (by simp)]; rfl) (by rw [hd]; unfold nextLast; rw [if_neg hon]; exact hw) (Nat.zero_le _)).mono ?_
    rintro e w' ⟨rfl, a', c', k1, k2, k3, k4⟩
    rw [e0, Nat.sub_zero] at k1 k3
    refine ⟨rfl, ⟨a', c', by rw [e1]; exact k1, ⟨by rw [e1]; simp; omega, .inl e1⟩, by omega, h4⟩, k4⟩
/-- Nobody goes on. -/
theorem next_off (w : World) (C lo hi : Nat) (xs : List Int) (t : Nat) (last : Int) (b : Option Addr) (W cb : Nat) (en : List Bool) {lo2 hi2 : Nat} (hC : Tn w C lo hi xs t last) (hm : xs.length ≤ 1000000)
    (hen : RowB lo2 hi2 w b W en) (hhi2 : hi2 ≤ w.heap.size) (h64 : W ≤ 1000) (hT : Tab w) (hCt : 0 < C) (hon : on 0 en = []) :
    Calls Tryd.prog 39 #[.pointer (some ⟨C, 0, none⟩), .slice b W cb] w fun e w' =>
      e = .returned (.int .i64 (-1)) ∧ Two C C w w' := by
  obtain ⟨a, c, h1, h2, h3, h4⟩ := hC
  refine (turn_gen w C a (xs.length - t) c (xs.drop t) last b W cb en h1 h2 h4 h3 (by omega) hen hhi2 h64 hT hCt (-1) 0 last (by unfold nextI; rw [if_pos hon]) (by unfold nextAt; rw [if_pos hon]; rfl) (by unfold nextLast; rw [if_pos hon]) (Nat.zero_le _)).mono ?_
  rintro e w' ⟨rfl, a', c', k1, k2, k3, k4⟩
  exact ⟨rfl, k4⟩

/-- Who goes on: -1, if nobody does. -/
def nxt (xs : List Int) (t : Nat) (last : Int) (en : List Bool) : Int := if on 0 en = [] then -1 else (whoN xs t last en : Nat)
theorem turn_any (w : World) (C lo hi : Nat) (xs : List Int) (t : Nat) (last : Int) (b : Option Addr) (W cb : Nat) (en : List Bool) {lo2 hi2 : Nat} (hC : Tn w C lo hi xs t last) (hm : xs.length ≤ 1000000)
    (hen : RowB lo2 hi2 w b W en) (hhi2 : hi2 ≤ w.heap.size) (h64 : W ≤ 1000) (hT : Tab w) (hCt : 0 < C) (x : Int) (hx : nxt xs t last en = x) :
    Calls Tryd.prog 39 #[.pointer (some ⟨C, 0, none⟩), .slice b W cb] w fun e w' =>
      e = .returned (.int .i64 x) ∧ (on 0 en ≠ [] → Tn w' C lo hi xs (t + 1) x) ∧ Two C C w w' := by
  by_cases hon : on 0 en = []
  · obtain rfl : x = -1 := by rw [← hx]; unfold nxt; rw [if_pos hon]
    refine (next_off w C lo hi xs t last b W cb en hC hm hen hhi2 h64 hT hCt hon).mono ?_
    rintro e w' ⟨rfl, h⟩
    exact ⟨rfl, fun q => absurd hon q, h⟩
  · obtain rfl : (whoN xs t last en : Nat) = x := by rw [← hx]; unfold nxt; rw [if_neg hon]
    refine (next_on w C lo hi xs t last b W cb en hC hm hen hhi2 h64 hT hCt hon _ rfl).mono ?_
    rintro e w' ⟨rfl, h1, h2⟩
    exact ⟨rfl, fun _ => h1, h2⟩

end Go.Proofs.YtpfcpeljfgmjgaaDoor
