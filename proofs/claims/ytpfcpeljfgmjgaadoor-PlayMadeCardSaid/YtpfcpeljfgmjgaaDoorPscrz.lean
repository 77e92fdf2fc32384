/- Contract of the statements' Scripts: scripts by numbers. -/
import Derived.Test.YtpfcpeljfgmjgaaDoorZpn
import Derived.Test.YtpfcpeljfgmjgaaDoorZpi
import Derived.Deep.RegionHeld3
import Derived.Deep.AppendLies
namespace Go.Proofs.YtpfcpeljfgmjgaaDoor
open Go.RowKit
set_option linter.unusedVariables false
set_option linter.unusedSimpArgs false

/-- A slice of slices of bytes that came in. -/
def GridY (W : World) (a : Option Addr) (n : Nat) : Prop :=
  n = 0 ∨ ∃ b off, a = some ⟨b, off, none⟩ ∧ b < W.heap.size ∧ ∀ i, i < n → ∃ A L C xs, W.cell? ⟨b, off + i, none⟩ = some (.slice A L C) ∧ L ≤ C ∧ RowY 0 W.heap.size W A L xs ∧ ∀ j, j < L → xs.getD j 0 ≤ 255

theorem Tryd.opsInfo : (Tryd.prog.info? 43).map (fun i => (i.zero, i.size, i.bytes)) = some (some (.slice none 0 0), 1, 24) := by kernel_rfl

/-- Scripts that were made. -/
def Made (n : Nat) (ss : List (List O3)) : Prop := ∀ s ∈ ss, s.length ≤ 24 ∧ ∀ q ∈ s, okB q.1 q.2.1 q.2.2 n ∧ 0 ≤ q.2.2 ∧ q.2.2 < n
/-- How they lie: those of the outer slice's values so far. -/
def ScrIn (lo : Nat) (w : World) (own : Option Nat) (svs : List Value) (ss : List (List O3)) : Prop :=
  svs.length = ss.length ∧ ∀ (i : Nat) (s : List O3), ss[i]? = some s → ∃ a c, svs[i]? = some (.slice a s.length c) ∧ OpsRow lo w.heap.size w a s.length s ∧ ∀ q, own = some q → 0 < s.length → ∀ b off, a = some ⟨b, off, none⟩ → b ≠ q

theorem run_head {P : Program} {t : TypeId} (ht : P.underlying t = some (.slice (P.elem t))) (hs : (P.info? (P.elem t)).map (fun i => i.size) = some 1) (a : Option Addr) (len cap m : Nat) (hm : m ≤ cap) (w : World) :
    Sem.run P (Instr.slice t (.slice a len cap) none (some (.int .i64 (m : Int))) none) w = .ok (.slice a m cap) w := by
  rw [run_slice_h w t _ len cap ht .i64 m (by omega) (by omega)]
  obtain ⟨i, hi, he⟩ := Option.map_eq_some_iff.1 hs
  simp [sizeOf, typeInfo, hi, sliced, Result.andThen]
  intro _
  cases a with
  | none => rfl
  | some x => simp [Addr.add]

def toO3 (q : Nat × Nat × Nat) : O3 := ((q.1 : Int), (q.2.1 : Int), (q.2.2 : Int))
theorem cellsO_o3 (os : List (Nat × Nat × Nat)) : cellsO os = (os.map toO3).flatMap o3 := by
  unfold cellsO
  rw [List.flatMap_map]
  rfl
theorem o3_length (q : O3) : (o3 q).length = 3 := rfl

theorem grownBy_drew {w w' : World} {r : Option Nat} (h : w.grownBy w' r) : w.grownBy w'.drew r := ⟨h.os, h.tape, h.output, h.size, h.block⟩
theorem grownBy_below {w w' w'' : World} {r : Option Nat} (h : w.grownBy w' r) (k : Below w'.heap.size w' w'') : w.grownBy w'' r := ⟨k.os.trans h.os, k.tape.trans h.tape, k.output.trans h.output, Nat.le_trans h.size k.size, fun q h1 h2 => (k.block q (Nat.lt_of_lt_of_le h1 h.size)).trans (h.block q h1 h2)⟩
theorem grownBy_alloc {w w' : World} {r : Option Nat} (h : w.grownBy w' r) (o : Obj) : w.grownBy (w'.alloc o) r := ⟨h.os, h.tape, h.output, by have := h.size; simp; omega, fun q h1 h2 => (Below.heap_alloc w' o q (Nat.lt_of_lt_of_le h1 h.size)).trans (h.block q h1 h2)⟩
theorem grownBy_grown {w w' w'' : World} {r : Option Nat} (h : w.grownBy w' r) (k : w'.grownBy w'' r) : w.grownBy w'' r := ⟨k.os.trans h.os, k.tape.trans h.tape, k.output.trans h.output, Nat.le_trans h.size k.size, fun q h1 h2 => (k.block q (Nat.lt_of_lt_of_le h1 h.size) h2).trans (h.block q h1 h2)⟩
theorem _root_.Go.World.ownsRow.oneCell {w : World} {base e size n : Nat} {v : Value} {xs : List Value} (h : w.ownsRow base e size v n xs) : v.oneCell' = true := by
  obtain ⟨_, ⟨rfl, _⟩ | ⟨_, _, _, rfl, _⟩⟩ := h <;> rfl

theorem Sl.keep {k lo hi hi' n : Nat} {w w' : World} {a : Option Addr} {xs : List (List Value)} (h : Sl k lo hi w a n xs) (hh : hi ≤ hi') (hb : 0 < n → ∀ b off, a = some ⟨b, off, none⟩ → lo ≤ b → b < hi → w'.heap[b]? = w.heap[b]?) : Sl k lo hi' w' a n xs := by
  obtain ⟨h1, h2⟩ := h
  by_cases h0 : n = 0
  · exact ⟨h1, .inl h0⟩
  · obtain ⟨b, off, rfl, hl, hh', hc⟩ := h2.resolve_left h0
    exact ⟨h1, .inr ⟨b, off, rfl, hl, by omega, hc.agree (hb (by omega) b off rfl hl hh')⟩⟩
theorem ScrIn.snoc {lo : Nat} {wr wz w9 : World} {own : Option Nat} {svs : List Value} {ss : List (List O3)} {a4 : Option Addr} {m4 c4 g : Nat} {os : List O3} {o : Obj} (h : ScrIn lo wr own svs ss) (hl : lo ≤ wr.heap.size) (hown : ∀ q, own = some q → q < wr.heap.size)
    (hb : Below wr.heap.size wr wz) (hg : (wz.alloc o).grownBy w9 own) (hat : own = some g ∨ g = (wz.alloc o).heap.size) (hr : OpsRow wr.heap.size wz.heap.size wz a4 m4 os) : ScrIn lo w9 (some g) (svs ++ [.slice a4 m4 c4]) (ss ++ [os]) := by
  have s1 := hb.size
  have s2 := hg.size
  rw [World.size_alloc] at s2
  have hm : os.length = m4 := by have := hr.1; simpa using this
  refine ⟨by simp [h.1], fun i s hs => ?_⟩
  by_cases hi : i < ss.length
  · rw [List.getElem?_append_left hi] at hs
    obtain ⟨a, c, h1, h2, h3⟩ := h.2 i s hs
    refine ⟨a, c, by rw [List.getElem?_append_left (by rw [h.1]; exact hi)]; exact h1, h2.keep (by omega) fun hn b off e hlo hhi => ?_, fun q hq hn b off e => ?_⟩
    · rw [hg.block b (by simp; omega) (fun e2 => h3 b e2.symm hn b off e rfl), Below.heap_alloc wz o b (by omega), hb.block b hhi]
    · have hqg : g = q := Option.some.inj hq
      subst hqg
      rcases hat with e2 | e2
      · exact h3 g e2 hn b off e
      · rw [World.size_alloc] at e2
        obtain ⟨b', off', e3, _, hh, _⟩ := h2.2.resolve_left (by omega)
        rw [e] at e3
        cases e3
        omega
  · rw [List.getElem?_append_right (by omega)] at hs
    have hz : i - ss.length = 0 := by have := (List.getElem?_eq_some_iff.1 hs).1; simp at this; omega
    rw [hz] at hs
    simp at hs
    subst hs
    refine ⟨a4, c4, by rw [List.getElem?_append_right (by rw [h.1]; omega), h.1, hz, hm]; rfl, ?_, fun q hq hn b off e => ?_⟩
    · rw [hm]
      exact (hr.mono hl (Nat.le_refl _)).keep (by omega) fun hn b off e hlo hhi => by
        obtain ⟨b', off', e3, h5, _, _⟩ := hr.2.resolve_left (by omega)
        rw [e] at e3
        cases e3
        rw [hg.block b (by simp; omega) (fun e2 => by have := hown b e2.symm; omega), Below.heap_alloc wz o b (by omega)]
    · have hqg : g = q := Option.some.inj hq
      subst hqg
      obtain ⟨b', off', e3, h5, h6, _⟩ := hr.2.resolve_left (by omega)
      rw [e] at e3
      cases e3
      rcases hat with e2 | e2
      · have := hown g e2; omega
      · rw [World.size_alloc] at e2; omega
theorem ScrIn.scr {lo base k : Nat} {w : World} {v : Value} {e : TypeId} {svs : List Value} {ss : List (List O3)} (h : ScrIn lo w v.ownBlock svs ss) (ho : w.ownsRow base e 1 v k svs) (hk : ss.length = k) : ∃ a c, v = .slice a ss.length c ∧ Scr w.heap.size w a ss.length ss := by
  obtain ⟨h1, ⟨rfl, h0⟩ | ⟨g, cap, cur, rfl, hb, hg, hn, hcap, hsz, ht⟩⟩ := id ho
  · exact ⟨none, 0, by rw [hk, h0], rfl, .inl (by omega)⟩
  · refine ⟨some ⟨g, 0, none⟩, cap, by rw [hk], rfl, .inr ⟨g, 0, rfl, (Array.getElem?_eq_some_iff.1 hg).1, fun i s hs => ?_⟩⟩
    obtain ⟨a, c, h2, h3, _⟩ := h.2 i s hs
    have hi : i < k := by have := (List.getElem?_eq_some_iff.1 hs).1; omega
    refine ⟨a, c, ?_, h3.mono (Nat.zero_le _) (Nat.le_refl _)⟩
    rw [Nat.zero_add, ho.cellAt i (by omega), h2]

set_option maxRecDepth 100000 in
set_option maxHeartbeats 4000000 in
theorem scripts_any (a : Option Addr) (la ca : Nat) (n : Nat) (w : World) (hg : GridY w a la) (hn0 : 0 < n) (hn : n ≤ 1000) :
    Calls Tryd.prog 17 #[.slice a la ca, .int .i64 (n : Int)] w fun e w' => ∃ a' c' ss, e = .returned (.slice a' ss.length c') ∧ ss.length ≤ 8 ∧ Made n ss ∧ Scr w'.heap.size w' a' ss.length ss ∧ Below w.heap.size w w' := by
  obtain ⟨i0, hi0, hz0, hz1, hz2⟩ := info_parts Tryd.opsInfo
  have HG := Lib.hid hg
  clear hg
  go_enter Tryd.func17, Tryd.ntmps17
  go_wp2_with fail
  go_loopw [5, 6] (fun lv iv wr => ∃ (k : Nat) (svs : List Value) (ss : List (List O3)), k ≤ la ∧ k ≤ 8 ∧ iv = .int .i64 (k : Int) ∧ wr.ownsRow w.heap.size 43 1 lv k svs ∧ Hid (ss.length = k) ∧ Hid (Made n ss) ∧ Hid (ScrIn w.heap.size wr lv.ownBlock svs ss) ∧ Below w.heap.size w wr) (fun _ iv _ => 8 - (intOf iv).toNat)
  case atStart => exact ⟨0, [], [], Nat.zero_le _, Nat.zero_le _, rfl, World.ownsRow_nil _ _ _ _, rfl, fun s hs => absurd hs List.not_mem_nil, ⟨rfl, fun i s hs => absurd hs (by simp)⟩, Below.refl _ _⟩
  case round =>
    obtain ⟨k, svs, ss, hk, hk8, rfl, hown, hkl, hmade, hin, hb⟩ := hrel
    have sr := hb.size
    by_cases hlt : k < la
    · by_cases hlt8 : k < 8
      · obtain ⟨b, off, rfl, hbb, hc⟩ := HG.out.resolve_left (by omega)
        obtain ⟨A, L, C, xs, hcell, hLC, hrow, hby⟩ := hc k hlt
        have d0 := (hb.cell (p := ⟨b, off + k, none⟩) hbb).trans hcell
        have hbw : b < wr.heap.size := by omega
        obtain ⟨m, hm⟩ : ∃ m, m = min L 24 := ⟨_, rfl⟩
        have hrm : RowY 0 w.heap.size w A m (xs.take m) := by
          obtain ⟨h1, h2⟩ := hrow
          refine ⟨by simp; omega, ?_⟩
          rcases h2 with h2 | ⟨b', o', e, h3, h4, h5⟩
          · exact .inl (by omega)
          · refine .inr ⟨b', o', e, h3, h4, fun i hi => ?_⟩
            rw [h5 i (by omega)]
            simp [List.getD, List.getElem?_take, hi]
        have hbm : ∀ j, j < m → (xs.take m).getD j 0 ≤ 255 := fun j hj => by
          have := hby j (by omega)
          simpa [List.getD, List.getElem?_take, hj] using this
        have hmin : (if (24 : Int) < (L : Int) then (24 : Int) else (L : Int)) = (m : Int) := by split <;> omega
        have HOP : Hid (∀ w', Below wr.heap.size wr w' → ∀ CC, Calls Tryd.prog 47 #[.slice A m CC, .int .i64 (n : Int)] w' fun e w'' => ∃ (a4 : Option Addr) (m4 c4 : Nat) (os : List O3), e = .returned (.slice a4 m4 c4) ∧ Hid (m4 ≤ m ∧ ∀ q ∈ os, okB q.1 q.2.1 q.2.2 (n : Int) ∧ 0 ≤ q.2.2 ∧ q.2.2 < (n : Int)) ∧ Hid (OpsRow w'.heap.size w''.heap.size w'' a4 m4 os) ∧ Below w'.heap.size w' w'') := fun w' h CC => by
          refine (ops_any A m CC (xs.take m) n w' (hrm.below (hb.trans (h.mono sr)) (Nat.le_refl _)) hbm (Nat.le_trans sr h.size) (by omega) hn0 hn).mono ?_
          rintro e w'' ⟨v, rfl, ⟨m4, os, h1, h2, h3⟩, hb'⟩
          rw [cellsO_o3] at h2
          have hl : (os.map toO3).length = m4 := by have := h2.1; rw [flat_length o3_length] at this; omega
          obtain ⟨a4, c4, rfl, _, h5⟩ := Sl.of_owns o3_length h2 hl
          refine ⟨a4, m4, c4, os.map toO3, rfl, ⟨h1, fun q hq => ?_⟩, h5, hb'⟩
          obtain ⟨p, hp, rfl⟩ := List.mem_map.1 hq
          obtain ⟨p1, p2, p3, p4⟩ := h3 p hp
          exact ⟨⟨by show (1 : Int) ≤ (p.1 : Int); omega, by show (p.1 : Int) ≤ 3; omega, ⟨by show (0 : Int) ≤ (p.2.1 : Int); omega, by show (p.2.1 : Int) < n; omega⟩, fun _ => ⟨by show (0 : Int) ≤ (p.2.2 : Int); omega, by show (p.2.2 : Int) < n; omega⟩⟩, by show (0 : Int) ≤ (p.2.2 : Int); omega, by show (p.2.2 : Int) < n; omega⟩
        have K : ∀ w', wr.grownBy w' u5.ownBlock → (wr.grownBy w' u5.ownBlock ∧ w'.cell? ⟨b, off + k, none⟩ = some (.slice A L C)) := fun w' h =>
          ⟨h, (World.cell?_of_block (h.block b hbw (fun e => by have := (hown.lt b e.symm).1; omega))).trans d0⟩
        have HK := Lib.hid K
        have HM := Lib.hid hm
        have HB := Lib.hid hb
        have HOWN := Lib.hid hown
        have hmL : (m : Int) ≤ (C : Int) := by omega
        have hm24 : m ≤ 24 := by omega
        clear hc hcell hrow hby hrm hbm K d0 hm hb hown
        have HRUN : ∀ W, Sem.run Tryd.prog (Instr.slice 35 (.slice A L C) none (some (.int .i64 (m : Int))) none) W = .ok (.slice A m C) W := fun W => run_head Tryd.underlying35 (by kernel_rfl) A L C m (by omega) W
        have HNEWS : Hid (∀ (W : World) (v : Value) (q : Nat) (u : Value), [v][q]? = some u → (W.alloc (.cells #[v] 43)).cell? (Addr.add ⟨W.heap.size, 0, none⟩ q) = some u) := by
          intro W v q u hq
          match q, hq with
          | 0, hq => simp at hq; subst hq; simp [Addr.add]
        have q1 : k + 1 ≤ maxLen := by unfold maxLen; omega
        have q2 : (k + 1) * 24 ≤ 140737488355328 := by omega
        have Q1 := Lib.hid q1
        have Q2 := Lib.hid q2
        have HONE : Hid (∀ (a : Option Addr) (m c : Nat), ∀ u ∈ [Value.slice a m c], u.oneCell' = true) := by
          intro a m c u hu
          simp at hu
          subst hu
          rfl
        have Q3 : Hid (∀ (W : World) (o : Obj), wr.heap.size ≤ W.heap.size → w.heap.size ≤ (W.alloc o).heap.size) := fun W o h => by simp; omega
        clear q1 q2
        go_wp2_with fail
        go_region_held3 (fun w' => wr.grownBy w' u5.ownBlock ∧ w'.cell? ⟨b, off + k, none⟩ = some (.slice A L C))
          (first
            | exact HK.out _ (grownBy_drew (World.grownBy.refl _ _))
            | exact HK.out _ (grownBy_below (And.left (by assumption)) hbz)
            | exact HK.out _ (grownBy_alloc (And.left (by assumption)) _)
            | exact HK.out _ (grownBy_grown (And.left (by assumption)) hgrow))
          (first
            | (go_at_call 47; (with_reducible refine (HOP.out _ ?_ _).mono ?_); exact (Below.refl wr.heap.size wr).drew; rintro e wz ⟨a4, m4, c4, os, rfl, hos, hrw, hbz⟩)
            | (refine step_append_lies _ rfl _ _ _ rfl w.heap.size 43 i0 (.slice none 0 0) 1 24 Tryd.underlying23 hi0 hz0 hz1 hz2 rfl (by decide) _ k svs rfl ((ownsRow_below HOWN.out.drew hbz).alloc _) ⟨wz.heap.size, 0, none⟩ 1 1 [.slice a4 m4 c4] rfl rfl (HNEWS.out _ _) (HONE.out _ _ _) (by decide) Q1.out Q2.out (Q3.out _ _ hbz.size) _ rfl ?_; intro g cap w9 hown9 hgrow hat hlt9))
        have hgr : (wz.alloc (.cells #[.slice a4 m4 c4] 43)).grownBy w9 u5.ownBlock := hgrow
        have hat' : u5.ownBlock = some g ∨ g = (wz.alloc (.cells #[.slice a4 m4 c4] 43)).heap.size := hat
        have hbz' : Below wr.heap.size wr wz := (Below.refl wr.heap.size wr).drew.trans hbz
        have hin9 := hin.out.snoc (c4 := c4) sr (fun q hq => (HOWN.out.lt q hq).2) hbz' hgr hat' hrw.out
        have hb9 : Below w.heap.size w w9 := below_grown (below_alloc (below_next HB.out hbz' (Nat.le_refl _)) (Nat.le_refl _) _) hgr (Nat.le_refl _) (fun q hq => (HOWN.out.lt q hq).1)
        have HM9 : Hid (Made n (ss ++ [os])) := fun s hs => by
          rcases List.mem_append.1 hs with h | h
          · exact hmade.out s h
          · simp at h; subst h
            have := hrw.out.1
            simp at this
            exact ⟨by have := hos.out.1; omega, hos.out.2⟩
        have HL9 : Hid ((ss ++ [os]).length = k + 1) := by show _ = _; rw [List.length_append, hkl.out]; rfl
        clear hgrow hat hgr hat' hbz' hrw hos
        go_wp2_with fail
        go_roundw
        case rel => exact ⟨k + 1, _, _, by omega, by omega, by go_num, hown9, HL9, HM9, hin9, hb9⟩
        case measure => simp [intOf]; omega
      · obtain rfl : k = 8 := by omega
        go_wp2_with fail
        go_ret
        obtain ⟨a', c', e, hs⟩ := hin.out.scr hown hkl.out
        exact ⟨a', c', ss, by rw [← e]; rfl, by have := hkl.out; omega, hmade.out, hs, hb⟩
    · obtain rfl : k = la := by omega
      go_wp2_with fail
      go_ret
      obtain ⟨a', c', e, hs⟩ := hin.out.scr hown hkl.out
      exact ⟨a', c', ss, by rw [← e]; rfl, by have := hkl.out; omega, hmade.out, hs, hb⟩

end Go.Proofs.YtpfcpeljfgmjgaaDoor
