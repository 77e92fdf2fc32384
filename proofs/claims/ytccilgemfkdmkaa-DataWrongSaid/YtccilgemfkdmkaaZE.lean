/- Package parse's lams: a range over slices.Backward. Package parse's leaf; seesAtom. Package parse's reader: tuple. Package parse's reader: the map of beginnings; seesAtom. Package parse's reader: atom. Package parse's reader: lam. Package parse's reader: bind. -/
import Derived.Test.YtccilgemfkdmkaaZC
import Derived.RangeFuncNested
import Derived.RangeFuncBound
import Derived.RangeFuncCalls
import Derived.RangeFuncLeaves
import Derived.RangeFuncWrites
import Derived.RangeFuncBox
import Derived.Shelf.Abstract
import Derived.Shelf.RegionOpen
import Derived.WalkKit
import Derived.OwnWalkIn
import Derived.TacticsInMore
import Derived.LoopNIn
import Derived.LoopIn
import Derived.Deep.RegionWith
import Derived.Test.YtccilgemfkdmkaaZD
import Derived.Deep.RegionHeld3
namespace Go.Proofs.Ytccilgemfkdmkaa
open Go.RowKit Go.Shelf
attribute [local go_sem] Oper.semAt_some
set_option linter.unusedVariables false
set_option linter.unusedSimpArgs false

/-! ### What comes backward -/
def backAt (l : List By) (j : Nat) : Nat × By := (l.length - 1 - j, l.getD (l.length - 1 - j) [])
def backL (l : List By) (k : Nat) : List (Nat × By) := (List.range k).map (backAt l)
theorem backL_succ (l : List By) (k : Nat) : backL l (k + 1) = backL l k ++ [backAt l k] := by simp [backL, List.range_succ]
theorem backL_length (l : List By) (k : Nat) : (backL l k).length = k := by simp [backL]
theorem backL_snd (l : List By) : (backL l l.length).map Prod.snd = l.reverse := by
  apply List.ext_getElem
  · simp [backL]
  · intro i h1 h2
    simp [backL] at h1
    simp [backL, backAt, List.getElem_reverse, List.getD, List.getElem?_eq_getElem (show l.length - 1 - i < l.length by omega)]
def lamTree (p : Int) (body : Ex) (pre : List (Nat × By)) : Ex := pre.foldl (fun b x => Ex.mk 6 p x.2 0 [b] []) body
theorem lamTree_snoc (p : Int) (body : Ex) (pre : List (Nat × By)) (x : Nat × By) : lamTree p body (pre ++ [x]) = .mk 6 p x.2 0 [lamTree p body pre] [] := by simp [lamTree]
theorem lamTree_back (p : Int) (body : Ex) (l : List By) : lamTree p body (backL l l.length) = lams p l body := by
  have h : ∀ (m : List (Nat × By)) (b : Ex), m.foldl (fun b x => Ex.mk 6 p x.2 0 [b] []) b = (m.map Prod.snd).foldl (fun b s => Ex.mk 6 p s 0 [b] []) b := by
    intro m; induction m with
    | nil => intro b; rfl
    | cons x r ih => intro b; exact ih _
  unfold lamTree lams
  rw [h, backL_snd, List.foldl_reverse]
theorem names_cells {S : Nat → Prop} {w : World} {l : List By} {a : Option Addr} {m cp : Nat} (h : InC S w (.s l.length 1 (strsC l)) (.slice a m cp)) : m = l.length ∧ (l.length = 0 ∨ ∃ b off, a = some ⟨b, off, none⟩ ∧ S b ∧ b < w.heap.size ∧ ∀ j, j < l.length → w.cell? ⟨b, off + j, none⟩ = some (.string (strB (l.getD j [])))) := by
  obtain ⟨h1, h2 | ⟨b, off, us, h2, h3, h4, h5, h6⟩⟩ := h.at_
  · exact ⟨h1, .inl h2⟩
  · refine ⟨h1, .inr ⟨b, off, h2, h3, h4, fun j hj => ?_⟩⟩
    have hul : us.length = l.length := by rw [h5.1]; simp [strsC]
    have hu : us[j]? = some us[j] := List.getElem?_eq_getElem (by omega)
    have hc : (strsC l)[j]? = some (bC (l.getD j [])) := by simp [strsC, List.getD, List.getElem?_eq_getElem hj]
    rw [h6 j _ hu, (h5.2 j _ _ hc hu).val]

/-! ### slices.Backward's closure -/
/-- What a round keeps: all cells below n₀ but one block's. -/
def KpB (n₀ B : Nat) (w w' : World) : Prop := ∀ k, k < n₀ → k ≠ B → w'.heap[k]? = w.heap[k]?
set_option maxRecDepth 100000 in
set_option maxHeartbeats 2000000 in
theorem back1_in (F : Fence) (n : Nat) (h8 : F.fn 128) (hro : F.round = none) (hn : 1 ≤ n) (l Bs n₀ B b off cap : Nat) (zs : List By) (hreach : zs.length ≤ 1000000) (hz : 0 < zs.length) (hb : b < n₀) (hbB : b ≠ B) (hBs : Bs < n₀) (hBB : Bs ≠ B) (J Jx : List (Nat × By) → World → Prop)
    (hY : ∀ pre x W, J pre W → pre.length < zs.length → YieldAt F (n - 1) Try.prog l #[.int .i64 (x.1 : Int), .string (strB x.2)] W fun e W' =>
      (e = .returned (.bool true) ∧ J (pre ++ [x]) W' ∧ KpB n₀ B W W') ∨ (e = .returned (.bool false) ∧ Jx (pre ++ [x]) W'))
    (W : World) (hBs : W.cell? ⟨Bs, 0, none⟩ = some (.slice (some ⟨b, off, none⟩) zs.length cap)) (hc : ∀ j, j < zs.length → W.cell? ⟨b, off + j, none⟩ = some (.string (strB (zs.getD j [])))) (h0 : J [] W) :
    CallsIn F n Try.prog 128 #[.func (.yield l) #[] #[], .pointer (some ⟨Bs, 0, none⟩)] W fun e W' => (∃ v, e = .returned v) ∧
      ((∃ ys, ys = backL zs zs.length ∧ J ys W') ∨ (∃ pre, (∃ k, k ≤ zs.length ∧ pre = backL zs k) ∧ Jx pre W')) := by
  refine callsIn_of_wp Try.func128 rfl h8 ?_ hro
  simp only [Try.ntmps128, List.size_toArray, List.length_cons, List.length_nil, Nat.reduceAdd, Nat.reduceSub, Array.replicate_succ, Array.replicate_zero, List.push_toArray, List.append_toArray, List.nil_append, List.cons_append]
  obtain ⟨L, hL⟩ : ∃ L, zs.length = L := ⟨_, rfl⟩
  rw [hL] at hY hBs hc hreach hz ⊢
  gi_wp2
  gi_loopw [3] (fun i wr => ∃ k : Nat, k ≤ L ∧ i = .int .i64 ((L : Int) - 1 - (k : Int)) ∧ J (backL zs k) wr ∧ KpB n₀ B W wr)
    (fun i _ => (intOf i + 1).toNat)
  case atStart => exact ⟨0, Nat.zero_le _, by simp, h0, fun _ _ _ => rfl⟩
  case round =>
    obtain ⟨k, hk, rfl, hJs, hnx⟩ := hrel
    have hcs : wr.cell? ⟨Bs, 0, none⟩ = some (.slice (some ⟨b, off, none⟩) L cap) := (World.cell?_of_block (hnx Bs ‹_› hBB)).trans hBs
    by_cases hlt : k < L
    · obtain ⟨z, hz1⟩ : ∃ z : Nat, z = L - 1 - k := ⟨_, rfl⟩
      have hzi : (L : Int) - 1 - (k : Int) = (z : Int) := by omega
      have hcx : wr.cell? ⟨b, off + z, none⟩ = some (.string (strB (zs.getD z []))) := (World.cell?_of_block (hnx b hb hbB)).trans (hc z (by omega))
      obtain ⟨fn, tmps, assign, body, hy, hR⟩ := hY (backL zs k) (z, zs.getD z []) wr hJs (by rw [backL_length]; exact hlt)
      dsimp only at hy
      obtain ⟨X, hX⟩ : ∃ X, strB (zs.getD z []) = X := ⟨_, rfl⟩
      rw [hX] at hcx hy
      have hz2 : (z : Int) < (L : Int) := by omega
      have hz3 : (0 : Int) ≤ (z : Int) := by omega
      have hz4 : decide ((0 : Int) ≤ (z : Int)) = true := decide_eq_true hz3
      rw [hzi]
      have HZ1 := Lib.hid hz1
      have HZI := Lib.hid hzi
      clear hz1 hzi hY
      gi_wp2
      refine hR.mono ?_
      rintro e W3 (⟨rfl, hJ3, hk3⟩ | ⟨rfl, hJx3⟩)
      · gi_wp2
        go_roundw
        case rel => exact ⟨k + 1, by omega, by have := HZI.out; go_num, by rw [backL_succ]; have e : backAt zs k = (z, zs.getD z []) := (by have := HZ1.out; unfold backAt; rw [hL, ← this]); rw [e]; exact hJ3, fun j h1 h2 => (hk3 j h1 h2).trans (hnx j h1 h2)⟩
        case measure => first | (simp [intOf]; done) | (simp [intOf]; omega)
      · gi_wp2
        refine bodyPost_ret (results_none rfl _ _ _) rfl ?_
        refine ⟨⟨_, rfl⟩, .inr ⟨_, ⟨k + 1, by omega, ?_⟩, hJx3⟩⟩
        rw [backL_succ]
        have e : backAt zs k = (z, zs.getD z []) := by have := HZ1.out; unfold backAt; rw [hL, ← this]
        rw [e]
    · obtain rfl : k = L := by omega
      rw [show (k : Int) - 1 - (k : Int) = -1 by omega]
      gi_wp2
      go_end0
      exact ⟨⟨_, rfl⟩, .inl ⟨_, rfl, hJs⟩⟩

set_option maxRecDepth 100000 in
set_option maxHeartbeats 1000000 in
theorem back1_nil (F : Fence) (n : Nat) (h8 : F.fn 128) (hro : F.round = none) (l Bs : Nat) (a : Option Addr) (cap : Nat) (J : List (Nat × By) → World → Prop) (W : World) (hBs : W.cell? ⟨Bs, 0, none⟩ = some (.slice a 0 cap)) (h0 : J [] W) :
    CallsIn F n Try.prog 128 #[.func (.yield l) #[] #[], .pointer (some ⟨Bs, 0, none⟩)] W fun e W' => (∃ v, e = .returned v) ∧ J [] W' := by
  refine callsIn_of_wp Try.func128 rfl h8 ?_ hro
  simp only [Try.ntmps128, List.size_toArray, List.length_cons, List.length_nil, Nat.reduceAdd, Nat.reduceSub, Array.replicate_succ, Array.replicate_zero, List.push_toArray, List.append_toArray, List.nil_append, List.cons_append]
  gi_wp2
  gi_loopw [3] (fun i wr => i = .int .i64 (-1) ∧ J [] wr) (fun _ _ => 0)
  case atStart => exact ⟨rfl, h0⟩
  case round =>
    obtain ⟨rfl, hJs⟩ := hrel
    gi_wp2
    go_end0
    exact ⟨⟨_, rfl⟩, hJs⟩

set_option maxHeartbeats 1000000 in
theorem back_in (F : Fence) (n : Nat) (h7 : F.fn 118) (hro : F.round = none) (a : Option Addr) (len cap : Nat) (w : World) :
    CallsIn F n Try.prog 118 #[.slice a len cap] w fun e w' => e = .returned (.func (.func 128) #[] #[.pointer (some ⟨w.heap.size, 0, none⟩)]) ∧ w' = w.alloc (.cells #[.slice a len cap] 53) := by
  refine callsIn_of_wp Try.func118 rfl h7 ?_ hro
  simp only [Try.ntmps118, List.size_toArray, List.length_cons, List.length_nil, Nat.reduceAdd, Nat.reduceSub, Array.replicate_succ, Array.replicate_zero, List.push_toArray, List.append_toArray, List.nil_append, List.cons_append]
  gi_wp2
  go_ret
  exact ⟨rfl, rfl⟩

theorem back_stops (F : Fence) (n : Nat) (h8 : F.fn 128) (hro : F.round = none) (hn : 1 ≤ n) (Bs B : Nat) {S : Nat → Prop} (a : Option Addr) (cap : Nat) (zs : List By) (hreach : zs.length ≤ 1000000) (w : World) (hBs : Bs < w.heap.size) (hBB : Bs ≠ B) (hS : ¬ S B)
    (hc : w.cell? ⟨Bs, 0, none⟩ = some (.slice a zs.length cap)) (hI : InC S w (.s zs.length 1 (strsC zs)) (.slice a zs.length cap)) :
    SeqStopsK F n Try.prog 128 #[.pointer (some ⟨Bs, 0, none⟩)] (fun x : Nat × By => #[Value.int .i64 (x.1 : Int), Value.string (strB x.2)]) (KpB w.heap.size B) (fun ys => ys = backL zs zs.length)
      (fun pre => ∃ k, k ≤ zs.length ∧ pre = backL zs k) zs.length w := fun l J Jx W hW _ _ hY h0 => by
  have hc' := (hW.cell (p := ⟨Bs, 0, none⟩) hBs).trans hc
  obtain ⟨_, h2 | ⟨b, off, rfl, h3, h4, h5⟩⟩ := names_cells hI
  · rw [h2] at hc' ⊢
    exact (back1_nil F n h8 hro l Bs a cap J W hc' h0).mono fun e W' ⟨he, hj⟩ => ⟨he, .inl ⟨_, rfl, hj⟩⟩
  · by_cases hz : 0 < zs.length
    · exact back1_in F n h8 hro hn l Bs w.heap.size B b off cap zs hreach hz h4 (fun e => hS (e ▸ h3)) hBs hBB J Jx hY W hc' (fun j hj => (hW.cell (p := ⟨b, off + j, none⟩) h4).trans (h5 j hj)) h0
    · have h2 : zs.length = 0 := by omega
      rw [h2] at hc' ⊢
      exact (back1_nil F n h8 hro l Bs _ cap J W hc' h0).mono fun e W' ⟨he, hj⟩ => ⟨he, .inl ⟨_, rfl, hj⟩⟩

/-! ### lams -/
theorem InC.own {S : Nat → Prop} {w w' : World} {row : Option Nat} {c : Cl} {u : Value} (h : InC S w c u) (hg : w.grownBy w' row) (hr : ∀ r, row = some r → ∃ o : Obj, w.heap[r]? = some o ∧ o.isCells = false) : InC S w' c u := by
  induction h with
  | v x => exact .v x
  | e k a cp => exact .e k a cp
  | s n k l b off cp us hS hb hl hu hn hcp hcm hc hi ih => exact .s n k l b off cp us hS (Nat.lt_of_lt_of_le hb hg.size) hl hu hn hcp hcm (fun i u hiu => cell_kept (hc i u hiu) hg hr) ih
theorem InS.own {S : Nat → Prop} {w w' : World} {row : Option Nat} {cs : List Cl} {us : List Value} (h : InS S w cs us) (hg : w.grownBy w' row) (hr : ∀ r, row = some r → ∃ o : Obj, w.heap[r]? = some o ∧ o.isCells = false) : InS S w' cs us := ⟨h.1, fun i c u h1 h2 => (h.2 i c u h1 h2).own hg hr⟩
theorem Box.own {w w' : World} {row : Option Nat} {b : Nat} {t : TypeId} {cs : List Value} (h : Box w b t cs) (hg : w.grownBy w' row) (hr : ∀ r, row = some r → ∃ o : Obj, w.heap[r]? = some o ∧ o.isCells = false) : Box w' b t cs :=
  (hg.block b h.lt fun e => by obtain ⟨o, ho, hc⟩ := hr b e.symm; rw [h] at ho; cases ho; cases hc).trans h
/-- Between two rounds: the place, the body so far, the result's box. -/
def LI (W0 w : World) (p : Int) (body : Ex) (pre : List (Nat × By)) (W : World) : Prop :=
  (Box W w.heap.size 3 [.int .i64 p] ∧ Box W (w.heap.size + 1 + 1) 43 [.int .i64 0, .int .i64 0, .string ⟨#[]⟩, .int .i64 0, .slice none 0 0, .slice none 0 0] ∧
    ∃ us, Box W (w.heap.size + 1) 43 us ∧ InS (fun b => New W0 b ∧ b ≠ w.heap.size + 1 ∧ b ≠ w.heap.size + 1 + 1) W (exC (lamTree p body pre)) us) ∧ Below w.heap.size w W ∧ w.heap.size + 4 ≤ W.heap.size
theorem LI.own {W0 w : World} {p : Int} {body : Ex} {B : Nat} (hB : w.heap.size ≤ B) : OwnFrom B (LI W0 w p body) :=
  OwnFrom.and (Own.from (fun s A A' row hs hg hr => ⟨hs.1.own hg hr, hs.2.1.own hg hr, let ⟨us, h1, h2⟩ := hs.2.2; ⟨us, h1.own hg hr, h2.own hg hr⟩⟩) _) (OwnFrom.and (ownFrom_below (Nat.le_refl _) hB) (fun _ _ _ _ hs hg _ => Nat.le_trans hs hg.size))
theorem set6 {w : World} {b : Nat} {t : TypeId} {us : List Value} {v0 v1 v2 v3 v4 v5 : Value} (h : Box w b t us) (hl : us.length = 6) : Box ((((((w.setCell ⟨b, 0, none⟩ v0).setCell ⟨b, 1, none⟩ v1).setCell ⟨b, 2, none⟩ v2).setCell ⟨b, 3, none⟩ v3).setCell ⟨b, 4, none⟩ v4).setCell ⟨b, 5, none⟩ v5) b t [v0, v1, v2, v3, v4, v5] := by
  have := (((((h.set 0 v0).set 1 v1).set 2 v2).set 3 v3).set 4 v4).set 5 v5
  match us, hl with
  | [a0, a1, a2, a3, a4, a5], _ => simpa using this

set_option maxRecDepth 100000 in
set_option maxHeartbeats 4000000 in
theorem lams_in (F : Fence) (n : Nat) (h4 : F.fn 104) (h7 : F.fn 118) (h8 : F.fn 128) (hro : F.round = none) (hn : 3 ≤ n) (W0 w : World) (p : Int) (names : List By) (body : Ex) (a : Option Addr) (cap : Nat) (v : Value) (hW : W0.heap.size ≤ w.heap.size)
    (hl : names.length ≤ 1000000) (hN : InC (New W0) w (.s names.length 1 (strsC names)) (.slice a names.length cap)) (hv : IsV (New W0) w (exC body) v) :
    CallsIn F n Try.prog 104 #[.int .i64 p, .slice a names.length cap, v] w fun e w' => ∃ v', e = .returned v' ∧ IsV (New W0) w' (exC (lams p names body)) v' ∧ Below w.heap.size w w' := by
  have h1 : 1 ≤ n := by omega
  obtain ⟨x0, x1, x2, x3, x4, x5, x6, x7, x8, x9, hx9, _⟩ := hv.exs
  subst hx9
  refine callsIn_of_wp_marks Try.func104 rfl h4 ?_ hro
  simp only [Try.ntmps104, List.size_toArray, List.length_cons, List.length_nil, Nat.reduceAdd, Nat.reduceSub, Array.replicate_succ, Array.replicate_zero, List.push_toArray, List.append_toArray, List.nil_append, List.cons_append]
  gi_wp2_with (gi_at_call 118; refine (back_in F (n - 1) h7 hro _ _ _ _).mono ?_; rintro e w' ⟨rfl, rfl⟩)
  have hB0 : Below w.heap.size w (((w.alloc (.cells #[.int .i64 p] 3)).alloc (.cells #[.int .i64 x0, .int .i64 x1, .string (strB x3), .int .i64 x2, .slice x4 x6 x8, .slice x5 x7 x9] 43)).alloc (.cells #[.int .i64 0, .int .i64 0, .string ⟨#[]⟩, .int .i64 0, .slice none 0 0, .slice none 0 0] 43)) := (((Below.refl _ w).alloc (Nat.le_refl _) _).alloc (by simp) _).alloc (by simp; omega) _
  have b3 := ((Box.new w 3 [.int .i64 p]).alloc (.cells #[.int .i64 x0, .int .i64 x1, .string (strB x3), .int .i64 x2, .slice x4 x6 x8, .slice x5 x7 x9] 43)).alloc (.cells #[.int .i64 0, .int .i64 0, .string ⟨#[]⟩, .int .i64 0, .slice none 0 0, .slice none 0 0] 43)
  have b5 := (Box.new (w.alloc (.cells #[.int .i64 p] 3)) 43 [.int .i64 x0, .int .i64 x1, .string (strB x3), .int .i64 x2, .slice x4 x6 x8, .slice x5 x7 x9]).alloc (.cells #[.int .i64 0, .int .i64 0, .string ⟨#[]⟩, .int .i64 0, .slice none 0 0, .slice none 0 0] 43)
  have b6 := Box.new ((w.alloc (.cells #[.int .i64 p] 3)).alloc (.cells #[.int .i64 x0, .int .i64 x1, .string (strB x3), .int .i64 x2, .slice x4 x6 x8, .slice x5 x7 x9] 43)) 43 [.int .i64 0, .int .i64 0, .string ⟨#[]⟩, .int .i64 0, .slice none 0 0, .slice none 0 0]
  simp only [World.size_alloc] at b5 b6
  have hsz : (((w.alloc (.cells #[.int .i64 p] 3)).alloc (.cells #[.int .i64 x0, .int .i64 x1, .string (strB x3), .int .i64 x2, .slice x4 x6 x8, .slice x5 x7 x9] 43)).alloc (.cells #[.int .i64 0, .int .i64 0, .string ⟨#[]⟩, .int .i64 0, .slice none 0 0, .slice none 0 0] 43)).heap.size = w.heap.size + 3 := by simp
  obtain ⟨w3, hw3⟩ : ∃ w3, (((w.alloc (.cells #[.int .i64 p] 3)).alloc (.cells #[.int .i64 x0, .int .i64 x1, .string (strB x3), .int .i64 x2, .slice x4 x6 x8, .slice x5 x7 x9] 43)).alloc (.cells #[.int .i64 0, .int .i64 0, .string ⟨#[]⟩, .int .i64 0, .slice none 0 0, .slice none 0 0] 43)) = w3 := ⟨_, rfl⟩
  rw [hw3] at hB0 b3 b5 b6 hsz ⊢
  have hNw : ∀ b, b < w.heap.size → New W0 b → (New W0 b ∧ b ≠ w.heap.size + 1 ∧ b ≠ w.heap.size + 1 + 1) := fun b hb h => ⟨h, by omega, by omega⟩
  have hN3 : InC (fun b => New W0 b ∧ b ≠ w.heap.size + 1 ∧ b ≠ w.heap.size + 1 + 1) w3 (.s names.length 1 (strsC names)) (.slice a names.length cap) := (hN.mono hNw).under hB0
  have hv3 : InS (fun b => New W0 b ∧ b ≠ w.heap.size + 1 ∧ b ≠ w.heap.size + 1 + 1) w3 (exC body) [.int .i64 x0, .int .i64 x1, .string (strB x3), .int .i64 x2, .slice x4 x6 x8, .slice x5 x7 x9] := by
    have := ((hv.mono hNw).under hB0).cells
    simpa [Value.cells] using this
  clear hw3
  refine wpIn_rangeFunc_ownG hro h1 (gf := 128) (lb := #[.pointer (some ⟨w.heap.size + 1 + 1 + 1, 0, none⟩)]) rfl h8 (enters_of Try.func128 (by kernel_rfl) rfl)
    (back_stops F (n - 1) h8 hro (by omega) (w.heap.size + 1 + 1 + 1) (w.heap.size + 1) a cap names hl (w3.alloc (.cells #[.slice a names.length cap] 53)) (by simp; omega) (by omega) (fun h => h.2.1 rfl) (by have := (Box.new w3 53 [.slice a names.length cap]).cell 0; rw [hsz] at this; exact this) (hN3.alloc _))
    (fun h k j h1 h2 => (k j h1 h2).trans (h j h1 h2)) (fun W l o o' hl ho _ _ j h1 h2 => World.putObj_heap_other (by omega)) (Below.refl _ _) (fun _ => rfl)
    (LI W0 w p body) (fun _ _ _ => False) (LI.own (by simp; omega)) (fun _ _ _ _ _ hs _ _ => hs)
    ⟨⟨b3.alloc _, b6.alloc _, ⟨_, b5.alloc _, hv3.alloc _⟩⟩, hB0.alloc (by omega) _, by simp; omega⟩
    (fun x => { tmps := #[.int .i64 p, .slice a names.length cap, .agg #[.int .i64 x0, .int .i64 x1, .string (strB x3), .int .i64 x2, .slice x4 x6 x8, .slice x5 x7 x9], .pointer (some ⟨w.heap.size, 0, none⟩), undef, .pointer (some ⟨w.heap.size + 1, 0, none⟩), .pointer (some ⟨w.heap.size + 1 + 1, 0, none⟩), undef, .string (strB x.2), .slice a names.length cap, .func (.func 128) #[] #[.pointer (some ⟨w.heap.size + 1 + 1 + 1, 0, none⟩)], .int .i64 (x.1 : Int), .string (strB x.2), undef, undef, undef, undef, undef, undef], defers := [] }) ?assign ?body ?done ?stop
  case assign =>
    intro l x W K hK
    gi_wp2
    exact hK
  case body =>
    rintro l pre x W ⟨⟨c3, c6, us, c5, hus⟩, hB, hW4⟩ _
    obtain ⟨z0, z1, z2, z3, z4, z5, z6, z7, z8, z9, hz9, _⟩ := IsV.exs (x := lamTree p body pre) ⟨us, rfl, hus⟩
    have hus2 : us = [.int .i64 z0, .int .i64 z1, .string (strB z3), .int .i64 z2, .slice z4 z6 z8, .slice z5 z7 z9] := by
      have := congrArg (fun v => v.cells.toList) hz9
      simpa [Value.cells] using this
    subst hus2
    obtain ⟨_, _⟩ := c3.one
    obtain ⟨_, _, _, _, _, _⟩ := six_cells c5
    obtain ⟨_, _, _, _, _, _⟩ := six_frozen c5
    have HC3 := Lib.hid c3
    have HC5 := Lib.hid c5
    have HC6 := Lib.hid c6
    have HU := Lib.hid hus
    have HB := Lib.hid hB
    have hWz := hB.size
    have l3 := c3.lt
    have l5 := c5.lt
    have l6 := c6.lt
    clear c3 c5 c6 hus hB hz9 b3 b5 b6 hN hN3 hv hv3 hB0
    gi_wp2
    obtain ⟨Ws, hWs⟩ : ∃ Ws, ((((((W.setCell ⟨w.heap.size + 1, 0, none⟩ (.int .i64 6)).setCell ⟨w.heap.size + 1, 1, none⟩ (.int .i64 p)).setCell ⟨w.heap.size + 1, 2, none⟩ (.string (strB x.2))).setCell ⟨w.heap.size + 1, 3, none⟩ (.int .i64 0)).setCell ⟨w.heap.size + 1, 4, none⟩ (.slice (some ⟨W.heap.size, 0, none⟩) 1 1)).setCell ⟨w.heap.size + 1, 5, none⟩ (.slice none 0 0)) = Ws := ⟨_, rfl⟩
    have e1 : KeepsOthers W Ws := by subst hWs; exact (((((KeepsOthers.setCell _ _ _).trans (KeepsOthers.setCell _ _ _)).trans (KeepsOthers.setCell _ _ _)).trans (KeepsOthers.setCell _ _ _)).trans (KeepsOthers.setCell _ _ _)).trans (KeepsOthers.setCell _ _ _)
    have e2 : Ws.heap.size = W.heap.size := by subst hWs; simp
    have e3 : ∀ k, k ≠ w.heap.size + 1 → Ws.heap[k]? = W.heap[k]? := fun k hk => by
      subst hWs
      exact (Below.heap_setCell _ ⟨w.heap.size + 1, 5, none⟩ _ k hk).trans ((Below.heap_setCell _ ⟨w.heap.size + 1, 4, none⟩ _ k hk).trans ((Below.heap_setCell _ ⟨w.heap.size + 1, 3, none⟩ _ k hk).trans ((Below.heap_setCell _ ⟨w.heap.size + 1, 2, none⟩ _ k hk).trans ((Below.heap_setCell _ ⟨w.heap.size + 1, 1, none⟩ _ k hk).trans (Below.heap_setCell W ⟨w.heap.size + 1, 0, none⟩ _ k hk)))))
    have e4 : Box Ws (w.heap.size + 1) 43 [.int .i64 6, .int .i64 p, .string (strB x.2), .int .i64 0, .slice (some ⟨W.heap.size, 0, none⟩) 1 1, .slice none 0 0] := by subst hWs; exact set6 HC5.out rfl
    have e5 : Below w.heap.size w Ws := by
      subst hWs
      exact (((((HB.out.setCell (p := ⟨w.heap.size + 1, 0, none⟩) (Nat.le_succ _) _).setCell (p := ⟨w.heap.size + 1, 1, none⟩) (Nat.le_succ _) _).setCell (p := ⟨w.heap.size + 1, 2, none⟩) (Nat.le_succ _) _).setCell (p := ⟨w.heap.size + 1, 3, none⟩) (Nat.le_succ _) _).setCell (p := ⟨w.heap.size + 1, 4, none⟩) (Nat.le_succ _) _).setCell (p := ⟨w.heap.size + 1, 5, none⟩) (Nat.le_succ _) _
    rw [hWs]
    clear hWs
    have hus : InS (fun b => New W0 b ∧ b ≠ w.heap.size + 1 ∧ b ≠ w.heap.size + 1 + 1) Ws (exC (lamTree p body pre)) [.int .i64 z0, .int .i64 z1, .string (strB z3), .int .i64 z2, .slice z4 z6 z8, .slice z5 z7 z9] := HU.out.agree (fun b h1 h2 => ⟨h1, e3 b h1.2.1⟩) (by omega)
    have hk := InC.of_new (t := 43) (n := 1) (k := 6) hus (by rw [e2]; unfold New; exact ⟨by omega, by omega, by omega⟩) (by rw [exC_len]) (by decide)
    rw [e2] at hk
    refine ⟨(e1.trans (KeepsOthers.alloc _ _)).from _, fun k h1 h2 => ?_, ⟨(show Box Ws _ _ _ from (e3 _ (by omega)).trans HC3.out).alloc _, (show Box Ws _ _ _ from (e3 _ (by omega)).trans HC6.out).alloc _, ⟨_, e4.alloc _, ?_⟩⟩, e5.alloc (by omega) _, by simp; omega⟩
    · exact (Below.heap_alloc Ws _ k (by simp at h1; omega)).trans (e3 k h2)
    · rw [lamTree_snoc]
      unfold exC
      exact InS.cons (.v _) (InS.cons (.v _) (InS.cons (.v _) (InS.cons (.v _) (InS.cons (by simpa [exsC] using hk) (InS.cons (.e _ _ _) InS.nil)))))
  case done =>
    rintro D ys W hD rfl ⟨⟨c3, c6, us, c5, hus⟩, hB, hW4⟩ hK
    rw [lamTree_back] at hus
    obtain ⟨z0, z1, z2, z3, z4, z5, z6, z7, z8, z9, hz9, _⟩ := IsV.exs (x := lams p names body) ⟨us, rfl, hus⟩
    have hus2 : us = [.int .i64 z0, .int .i64 z1, .string (strB z3), .int .i64 z2, .slice z4 z6 z8, .slice z5 z7 z9] := by
      have := congrArg (fun v => v.cells.toList) hz9
      simpa [Value.cells] using this
    subst hus2
    obtain ⟨_, _, _, _, _, _⟩ := six_cells c5
    obtain ⟨_, _, _, _, _, _⟩ := six_cells c6
    obtain ⟨_, _, _, _, _, _⟩ := six_frozen c6
    have l5 := c5.lt
    have l6 := c6.lt
    gi_wp2
    obtain ⟨Ws, hWs⟩ : ∃ Ws, ((((((W.setCell ⟨w.heap.size + 1 + 1, 0, none⟩ (.int .i64 z0)).setCell ⟨w.heap.size + 1 + 1, 1, none⟩ (.int .i64 z1)).setCell ⟨w.heap.size + 1 + 1, 2, none⟩ (.string (strB z3))).setCell ⟨w.heap.size + 1 + 1, 3, none⟩ (.int .i64 z2)).setCell ⟨w.heap.size + 1 + 1, 4, none⟩ (.slice z4 z6 z8)).setCell ⟨w.heap.size + 1 + 1, 5, none⟩ (.slice z5 z7 z9)) = Ws := ⟨_, rfl⟩
    have e1 : KeepsOthers W Ws := by subst hWs; exact (((((KeepsOthers.setCell _ _ _).trans (KeepsOthers.setCell _ _ _)).trans (KeepsOthers.setCell _ _ _)).trans (KeepsOthers.setCell _ _ _)).trans (KeepsOthers.setCell _ _ _)).trans (KeepsOthers.setCell _ _ _)
    have e2 : Ws.heap.size = W.heap.size := by subst hWs; simp
    have e4 : Box Ws (w.heap.size + 1 + 1) 43 [.int .i64 z0, .int .i64 z1, .string (strB z3), .int .i64 z2, .slice z4 z6 z8, .slice z5 z7 z9] := by subst hWs; exact set6 c6 rfl
    have e5 : Below w.heap.size w Ws := by
      subst hWs
      exact (((((hB.setCell (p := ⟨w.heap.size + 1 + 1, 0, none⟩) (by show _ ≤ _ + 1 + 1; omega) _).setCell (p := ⟨w.heap.size + 1 + 1, 1, none⟩) (by show _ ≤ _ + 1 + 1; omega) _).setCell (p := ⟨w.heap.size + 1 + 1, 2, none⟩) (by show _ ≤ _ + 1 + 1; omega) _).setCell (p := ⟨w.heap.size + 1 + 1, 3, none⟩) (by show _ ≤ _ + 1 + 1; omega) _).setCell (p := ⟨w.heap.size + 1 + 1, 4, none⟩) (by show _ ≤ _ + 1 + 1; omega) _).setCell (p := ⟨w.heap.size + 1 + 1, 5, none⟩) (by show _ ≤ _ + 1 + 1; omega) _
    rw [hWs]
    have e3 : ∀ k, k ≠ w.heap.size + 1 + 1 → Ws.heap[k]? = W.heap[k]? := fun k hk => by
      subst hWs
      exact (Below.heap_setCell _ ⟨w.heap.size + 1 + 1, 5, none⟩ _ k hk).trans ((Below.heap_setCell _ ⟨w.heap.size + 1 + 1, 4, none⟩ _ k hk).trans ((Below.heap_setCell _ ⟨w.heap.size + 1 + 1, 3, none⟩ _ k hk).trans ((Below.heap_setCell _ ⟨w.heap.size + 1 + 1, 2, none⟩ _ k hk).trans ((Below.heap_setCell _ ⟨w.heap.size + 1 + 1, 1, none⟩ _ k hk).trans (Below.heap_setCell W ⟨w.heap.size + 1 + 1, 0, none⟩ _ k hk)))))
    clear hWs
    have hK' := e1.same D _ hK rfl
    have hr : ∀ r, some D = some r → ∃ o : Obj, Ws.heap[r]? = some o ∧ o.isCells = false := fun r e => by cases e; exact ⟨_, hK', rfl⟩
    have e6 := e4.own (grownBy_putObj' _ D (.deferred none)) hr
    obtain ⟨q0, q1, q2, q3, q4, q5⟩ := six_cells e6
    refine ⟨by simp, .inl ⟨_, _, rfl, run_takeDeferred hK', ?_⟩⟩
    refine ⟨.agg #[.int .i64 z0, .int .i64 z1, .string (strB z3), .int .i64 z2, .slice z4 z6 z8, .slice z5 z7 z9], ?_, _, rfl, ⟨[.int .i64 z0, .int .i64 z1, .string (strB z3), .int .i64 z2, .slice z4 z6 z8, .slice z5 z7 z9], rfl, ?_⟩, e5.trans (belowK_b (w := w) (Nat.le_refl _) _ D _ _ (by simp at hD; omega) hK' rfl rfl)⟩
    · simp [results, Try.f104, go_sem, q0, q1, q2, q3, q4, q5]
    · have h0 : InS (fun b => New W0 b ∧ b ≠ w.heap.size + 1 ∧ b ≠ w.heap.size + 1 + 1) Ws (exC (lams p names body)) [.int .i64 z0, .int .i64 z1, .string (strB z3), .int .i64 z2, .slice z4 z6 z8, .slice z5 z7 z9] := hus.agree (fun b h1 h2 => ⟨h1, e3 b h1.2.2⟩) (by omega)
      exact (h0.own (grownBy_putObj' _ D (.deferred none)) hr).mono fun b _ h => h.1
  case stop =>
    rintro D c pre W _ _ h _
    exact h.elim

theorem z_lams (W0 w : World) (p : Int) (names : List By) (body : Ex) (a : Option Addr) (cap : Nat) (v : Value) (hW : W0.heap.size ≤ w.heap.size)
    (hl : names.length ≤ 1000000) (hN : InC (New W0) w (.s names.length 1 (strsC names)) (.slice a names.length cap)) (hv : IsV (New W0) w (exC body) v) :
    Calls Try.prog 104 #[.int .i64 p, .slice a names.length cap, v] w fun e w' => ∃ v', e = .returned v' ∧ IsV (New W0) w' (exC (lams p names body)) v' ∧ Below w.heap.size w w' :=
  callsIn_wide.1 (lams_in Fence.wide 3 trivial trivial trivial rfl (Nat.le_refl _) W0 w p names body a cap v hW hl hN hv)

end Go.Proofs.Ytccilgemfkdmkaa

namespace Go.Proofs.Ytccilgemfkdmkaa
open Go.RowKit Go.Maps
set_option linter.unusedVariables false
set_option linter.unusedSimpArgs false

set_option maxRecDepth 100000 in
set_option maxHeartbeats 4000000 in
theorem z_leaf (k : Nat) (t : Tk) (S : Nat → Prop) (W : World) : Calls Try.prog 135 #[.int .i64 (k : Int), .agg #[.int .i64 (t.k : Int), .int .i64 (t.p : Int), .string (strB t.s), .int .i64 (t.n : Int)]] W fun e w' =>
    e = .returned (.agg #[.int .i64 (k : Int), .int .i64 (t.p : Int), .string (if k = 4 then ⟨#[]⟩ else strB t.s), .int .i64 (if k = 4 then (if t.s = tTrue then 1 else 0) else (t.n : Int)), .slice none 0 0, .slice none 0 0]) ∧ Below W.heap.size W w' := by
  have hst : (strB t.s).toList = t.s := by simp [strB]
  obtain ⟨p, hp⟩ : ∃ p : Int, (t.p : Int) = p := ⟨_, rfl⟩
  obtain ⟨q, hq⟩ : ∃ q : Int, (t.n : Int) = q := ⟨_, rfl⟩
  obtain ⟨u, hu⟩ : ∃ u : Int, (t.k : Int) = u := ⟨_, rfl⟩
  rw [hp, hq, hu]
  clear hp hq hu
  by_cases h4 : k = 4
  · subst h4
    by_cases hs : t.s = tTrue
    · rw [if_pos rfl, if_pos rfl, if_pos hs, show ((4 : Nat) : Int) = 4 from rfl]
      have hne : ((strB t.s).toList == [116, 114, 117, 101]) = true := by rw [hst, hs]; decide
      generalize strB t.s = SS at *
      clear hst hs
      go_enter Try.func135, Try.ntmps135
      go_wp2
      refine bodyPost_ret (v := .agg #[.int .i64 4, .int .i64 p, .string ⟨#[]⟩, .int .i64 1, .slice none 0 0, .slice none 0 0]) (by simp only [results, Try.results135]; go_simp <;> rfl) rfl ⟨rfl, ?_⟩
      go_grown
    · rw [if_pos rfl, if_pos rfl, if_neg hs, show ((4 : Nat) : Int) = 4 from rfl]
      have hne : ((strB t.s).toList == [116, 114, 117, 101]) = false := by rw [hst]; exact beq_false_of_ne hs
      generalize strB t.s = SS at *
      clear hst hs
      go_enter Try.func135, Try.ntmps135
      go_wp2
      refine bodyPost_ret (v := .agg #[.int .i64 4, .int .i64 p, .string ⟨#[]⟩, .int .i64 0, .slice none 0 0, .slice none 0 0]) (by simp only [results, Try.results135]; go_simp <;> rfl) rfl ⟨rfl, ?_⟩
      go_grown
  · rw [if_neg h4, if_neg h4]
    have e4 : ((k : Int) != 4) = true := by simp; omega
    generalize strB t.s = SS at *
    generalize (k : Int) = KK at *
    clear hst h4
    go_enter Try.func135, Try.ntmps135
    go_wp2_with fail
    go_region
    go_wp2_with fail
    refine bodyPost_ret (v := .agg #[.int .i64 KK, .int .i64 p, .string SS, .int .i64 q, .slice none 0 0, .slice none 0 0]) (by simp only [results, Try.results135]; go_simp <;> rfl) rfl ⟨rfl, ?_⟩
    go_grown
theorem leaf_is (k : Nat) (t : Tk) (S : Nat → Prop) (w : World) : IsV S w (exC (leafE k t)) (.agg #[.int .i64 (k : Int), .int .i64 (t.p : Int), .string (if k = 4 then ⟨#[]⟩ else strB t.s), .int .i64 (if k = 4 then (if t.s = tTrue then 1 else 0) else (t.n : Int)), .slice none 0 0, .slice none 0 0]) := by
  unfold leafE
  by_cases h : k = 4
  · subst h
    rw [if_pos rfl, if_pos rfl, if_pos rfl]
    exact IsV.of_ex (s := []) (.e _ _ _) (.e _ _ _)
  · rw [if_neg h, if_neg h, if_neg h]
    exact IsV.of_ex (.e _ _ _) (.e _ _ _)

end Go.Proofs.Ytccilgemfkdmkaa

namespace Go.Proofs.Ytccilgemfkdmkaa
open Go.RowKit Go.Maps
set_option linter.unusedVariables false
set_option linter.unusedSimpArgs false

theorem tupEx_ne {p : Int} {l : List Ex} (h : l.length ≠ 1) : tupEx p l = .mk 8 p [] 0 l [] := by
  unfold tupEx
  split
  · exact absurd rfl h
  · rfl

set_option maxRecDepth 100000 in
set_option maxHeartbeats 4000000 in
theorem k_tuple {c : Cx} {n : Nat} {X : PS → Ex × PS} (HONE : ∀ (W0 W : World) (τ : PS), Car c W0 W τ → τ.ts.length < n → Calls Try.prog 105 #[.pointer (some ⟨c.R, 0, none⟩)] W (Tells c W0 W exC (X τ))) (hdec : Dec X)
    {W0 W : World} {σ : PS} (h : Car c W0 W σ) (hlen : σ.ts.length ≤ n) (hsee : σ.sees (sS tLpar) = true) {R : Ex × PS} (hR : tupleF c.En X σ = R) :
    Calls Try.prog 136 #[.pointer (some ⟨c.R, 0, none⟩)] W (Tells c W0 W exC R) := by
  have hR0 := h.rd.lt
  have hR1 : c.R < (W.alloc (.cells #[.int .i64 0, .int .i64 0, .string ⟨#[]⟩, .int .i64 0, .slice none 0 0, .slice none 0 0] 43)).heap.size := by simp; omega
  obtain ⟨B, hB⟩ : ∃ B, bracketF c.En X σ = B := ⟨_, rfl⟩
  have HR : Hid (R = (tupEx B.1.2 B.1.1, B.2)) := by show _ = _; rw [← hR, ← hB]; rfl
  have H0 := Lib.hid h
  have H1 := Lib.hid (h.begin (.cells #[.int .i64 0, .int .i64 0, .string ⟨#[]⟩, .int .i64 0, .slice none 0 0, .slice none 0 0] 43))
  have HB := Lib.hid hB
  have HONE2 := Lib.hid HONE
  have HD := Lib.hid hdec
  clear h hR hB HONE hdec
  by_cases h1 : B.1.1.length = 1
  · obtain ⟨x, hx⟩ : ∃ x, B.1.1 = [x] := List.length_eq_one_iff.1 h1
    have HX := Lib.hid hx
    clear hx h1
    go_enter Try.func136, Try.ntmps136
    go_wp2_with (go_at_call 139; refine (k_bracketE HONE2.out HD.out H1.out hlen hsee HB.out).mono ?_; clear H1; rw [HX.out]; rintro e w1 ⟨a1, cp1, rfl, hc1, H1, ho1⟩; rw [show ([x] : List Ex).flatMap exC = exC x by simp] at hc1; obtain ⟨_, b, off, us, rfl, hv1, hcs⟩ := hc1.only; obtain ⟨x0, x1, x2, x3, x4, x5, x6, x7, x8, x9, hx9, _⟩ := hv1.exs; obtain rfl := agg_inj hx9; have q0 := hcs 0 _ rfl; have q1 := hcs 1 _ rfl; have q2 := hcs 2 _ rfl; have q3 := hcs 3 _ rfl; have q4 := hcs 4 _ rfl; have q5 := hcs 5 _ rfl; rw [Nat.add_zero] at q0; clear hcs; have hb4 := H1.res hR0; obtain ⟨_, _, _, _, _, _⟩ := six_cells hb4; obtain ⟨_, _, _, _, _, _⟩ := six_frozen hb4; clear hb4; have HV := Lib.hid hv1; clear ho1 hv1 hc1; replace H1 := Lib.hid H1)
    refine bodyPost_ret (v := .agg #[.int .i64 x0, .int .i64 x1, .string (strB x3), .int .i64 x2, .slice x4 x6 x8, .slice x5 x7 x9]) (by simp only [results, Try.results136]; go_simp <;> rfl) rfl ?_
    refine tells H0.out H1.out (by repeat (first | with_reducible exact Nb.refl _ _ | with_reducible refine Nb.set ?_ _ _ | with_reducible refine Nb.alloc ?_ _ | with_reducible refine Nb.drew ?_)) (by rw [HR.out]) ?_
    rw [HR.out]
    rw [HX.out]
    exact HV.out
  · have e1 : ((B.1.1.length : Int) == 1) = false := by simp; omega
    have HX := Lib.hid (tupEx_ne (p := (B.1.2 : Int)) h1)
    clear h1
    go_enter Try.func136, Try.ntmps136
    go_wp2_with (go_at_call 139; refine (k_bracketE HONE2.out HD.out H1.out hlen hsee HB.out).mono ?_; clear H1; rintro e w1 ⟨a1, cp1, rfl, hc1, H1, ho1⟩; have hb4 := H1.res hR0; obtain ⟨_, _, _, _, _, _⟩ := six_cells hb4; obtain ⟨_, _, _, _, _, _⟩ := six_frozen hb4; clear hb4; have HC := Lib.hid hc1; clear ho1 hc1; replace H1 := Lib.hid H1)
    refine bodyPost_ret (v := .agg #[.int .i64 8, .int .i64 (B.1.2 : Int), .string ⟨#[]⟩, .int .i64 0, .slice a1 B.1.1.length cp1, .slice none 0 0]) (by simp only [results, Try.results136]; go_simp <;> rfl) rfl ?_
    refine tells H0.out H1.out (by repeat (first | with_reducible exact Nb.refl _ _ | with_reducible refine Nb.set ?_ _ _ | with_reducible refine Nb.alloc ?_ _ | with_reducible refine Nb.drew ?_)) (by rw [HR.out]) ?_
    rw [HR.out]
    rw [HX.out]
    exact IsV.of_ex (s := []) (by rw [exsC_eq]; exact HC.out) (.e _ _ _)

end Go.Proofs.Ytccilgemfkdmkaa

namespace Go.Proofs.Ytccilgemfkdmkaa
open Go.RowKit Go.Maps
set_option linter.unusedVariables false
set_option linter.unusedSimpArgs false

theorem next_fit {c : Cx} {w : World} {σ : PS} (h : RD c w σ) : σ.next.fit := by
  unfold PS.next
  split
  · exact ⟨Nat.zero_le _, Nat.zero_le _⟩
  · rename_i t r e
    have hf := h.fit t (by rw [e]; exact List.mem_cons_self ..)
    unfold srt
    split
    · exact ⟨Nat.le_trans hf.1 (by decide), hf.2.2.1⟩
    · exact ⟨Nat.le_trans hf.1 (by decide), Nat.zero_le _⟩
theorem k_next {c : Cx} {W0 W : World} {σ : PS} (h : Car c W0 W σ) {K : Int} {S : ByteArray} (hK : (σ.next.k : Int) = K) (hS : strB σ.next.s = S) :
    Calls Try.prog 98 #[.pointer (some ⟨c.R, 0, none⟩)] W fun e w' => e = .returned (.agg #[.int .i64 K, .string S]) ∧ Car c W0 w' σ ∧ Out (fun b => b = c.R) W w' := by
  subst hK hS
  exact (z_next c σ W h.rd).mono fun e w' ⟨h1, h2⟩ => ⟨h1, h.under h2, Out.of_below h2⟩
/-- What a look into the map of beginnings tells. -/
theorem beg_look {c : Cx} {w : World} {σ : PS} (h : RD c w σ) {s : Srt} (hs : s.fit) {K : Int} {S : ByteArray} (hK : (s.k : Int) = K) (hS : strB s.s = S) {b : Nat} (hb : beg s = b) :
    Sem.run Try.prog (Instr.lookup 73 (.map (some c.B)) (.agg #[.int .i64 K, .string S]) false) w = .ok (.int .i64 (b : Int)) w := by
  subst hK hS hb
  obtain ⟨l, hl⟩ := srt_key hs
  obtain ⟨n, D, hm, hv⟩ := h.beg
  exact look_plain Try.sortKeyed Try.underlying73 Try.underlying3 (Try.zzeroInt _) hm hl (hv s l hs hl)
theorem beg_le (s : Srt) : beg s ≤ 10 := by
  unfold beg
  repeat' split
  all_goals decide
theorem bx_cells {c : Cx} {w : World} {σ : PS} (h : RD c w σ) : w.cell? ⟨c.R, 2, none⟩ = some (.map (some c.B)) := by
  obtain ⟨a, cp, hb, _⟩ := h.box
  exact hb.cell 2

set_option maxRecDepth 100000 in
set_option maxHeartbeats 4000000 in
theorem k_seesAtom {c : Cx} {W0 W : World} {σ : PS} (h : Car c W0 W σ) {A : Bool} (hA : σ.seesAtom = A) :
    Calls Try.prog 132 #[.pointer (some ⟨c.R, 0, none⟩)] W fun e w' => e = .returned (.bool A) ∧ Car c W0 w' σ ∧ Out (fun b => b = c.R) W w' := by
  obtain ⟨K, hK⟩ : ∃ K : Int, (σ.next.k : Int) = K := ⟨_, rfl⟩
  obtain ⟨S, hS⟩ : ∃ S, strB σ.next.s = S := ⟨_, rfl⟩
  obtain ⟨b, hb⟩ : ∃ b, beg σ.next = b := ⟨_, rfl⟩
  have hb10 : b ≤ 10 := hb ▸ beg_le _
  unfold PS.seesAtom at hA
  rw [hb] at hA
  have HK := Lib.hid hK
  have HS := Lib.hid hS
  have HB := Lib.hid hb
  have HF := Lib.hid (next_fit h.rd)
  have H1 := Lib.hid h
  have hc1 := bx_cells h.rd
  clear h hK hS hb
  have hcase : b = 1 ∨ b = 2 ∨ b = 3 ∨ b = 4 ∨ b = 8 ∨ (b = 0 ∨ b = 5 ∨ b = 6 ∨ b = 7 ∨ b = 9 ∨ b = 10) := by omega
  rcases hcase with rfl | rfl | rfl | rfl | rfl | hcase
  · obtain rfl : true = A := by rw [← hA]; rfl
    clear hb10 hA
    go_enter Try.func132, Try.ntmps132
    go_wp2_with fail
    go_region_with (go_at_call 98; (with_reducible refine (k_next (Car.drew H1.out) HK.out HS.out).mono ?_); rintro e w1 ⟨rfl, H2, ho1⟩; have hlook := beg_look H2.rd HF.out HK.out HS.out HB.out; have hc2 := bx_cells H2.rd; have H3 := Lib.hid (H2); have HO := Lib.hid ho1; clear H2 ho1)
    all_goals go_wp2_with fail
    all_goals go_ret
    all_goals exact ⟨rfl, H3.out, HO.out.drew2⟩
  · obtain rfl : true = A := by rw [← hA]; rfl
    clear hb10 hA
    go_enter Try.func132, Try.ntmps132
    go_wp2_with fail
    go_region_with (go_at_call 98; (with_reducible refine (k_next (Car.drew H1.out) HK.out HS.out).mono ?_); rintro e w1 ⟨rfl, H2, ho1⟩; have hlook := beg_look H2.rd HF.out HK.out HS.out HB.out; have hc2 := bx_cells H2.rd; have H3 := Lib.hid (H2); have HO := Lib.hid ho1; clear H2 ho1)
    all_goals go_wp2_with fail
    all_goals go_ret
    all_goals exact ⟨rfl, H3.out, HO.out.drew2⟩
  · obtain rfl : true = A := by rw [← hA]; rfl
    clear hb10 hA
    go_enter Try.func132, Try.ntmps132
    go_wp2_with fail
    go_region_with (go_at_call 98; (with_reducible refine (k_next (Car.drew H1.out) HK.out HS.out).mono ?_); rintro e w1 ⟨rfl, H2, ho1⟩; have hlook := beg_look H2.rd HF.out HK.out HS.out HB.out; have hc2 := bx_cells H2.rd; have H3 := Lib.hid (H2); have HO := Lib.hid ho1; clear H2 ho1)
    all_goals go_wp2_with fail
    all_goals go_ret
    all_goals exact ⟨rfl, H3.out, HO.out.drew2⟩
  · obtain rfl : true = A := by rw [← hA]; rfl
    clear hb10 hA
    go_enter Try.func132, Try.ntmps132
    go_wp2_with fail
    go_region_with (go_at_call 98; (with_reducible refine (k_next (Car.drew H1.out) HK.out HS.out).mono ?_); rintro e w1 ⟨rfl, H2, ho1⟩; have hlook := beg_look H2.rd HF.out HK.out HS.out HB.out; have hc2 := bx_cells H2.rd; have H3 := Lib.hid (H2); have HO := Lib.hid ho1; clear H2 ho1)
    all_goals go_wp2_with fail
    all_goals go_ret
    all_goals exact ⟨rfl, H3.out, HO.out.drew2⟩
  · obtain rfl : true = A := by rw [← hA]; rfl
    clear hb10 hA
    go_enter Try.func132, Try.ntmps132
    go_wp2_with fail
    go_region_with (go_at_call 98; (with_reducible refine (k_next (Car.drew H1.out) HK.out HS.out).mono ?_); rintro e w1 ⟨rfl, H2, ho1⟩; have hlook := beg_look H2.rd HF.out HK.out HS.out HB.out; have hc2 := bx_cells H2.rd; have H3 := Lib.hid (H2); have HO := Lib.hid ho1; clear H2 ho1)
    all_goals go_wp2_with fail
    all_goals go_ret
    all_goals exact ⟨rfl, H3.out, HO.out.drew2⟩
  · have hd : ((b : Int) == 1) = false ∧ ((b : Int) == 2) = false ∧ ((b : Int) == 3) = false ∧ ((b : Int) == 4) = false ∧ ((b : Int) == 8) = false := by simp; omega
    obtain ⟨e1, e2, e3, e4, e8⟩ := hd
    obtain rfl : false = A := by rw [← hA]; rcases hcase with rfl | rfl | rfl | rfl | rfl | rfl <;> rfl
    clear hcase hb10 hA
    go_enter Try.func132, Try.ntmps132
    go_wp2_with fail
    go_region_with (go_at_call 98; (with_reducible refine (k_next (Car.drew H1.out) HK.out HS.out).mono ?_); rintro e w1 ⟨rfl, H2, ho1⟩; have hlook := beg_look H2.rd HF.out HK.out HS.out HB.out; have hc2 := bx_cells H2.rd; have H3 := Lib.hid (H2); have HO := Lib.hid ho1; clear H2 ho1)
    all_goals go_wp2_with fail
    all_goals go_ret
    all_goals exact ⟨rfl, H3.out, HO.out.drew2⟩

end Go.Proofs.Ytccilgemfkdmkaa

namespace Go.Proofs.Ytccilgemfkdmkaa
open Go.RowKit Go.Maps
set_option linter.unusedVariables false
set_option linter.unusedSimpArgs false

set_option maxRecDepth 100000 in
set_option maxHeartbeats 4000000 in
theorem k_atom {c : Cx} {n : Nat} {X : PS → Ex × PS} (HONE : ∀ (W0 W : World) (τ : PS), Car c W0 W τ → τ.ts.length < n → Calls Try.prog 105 #[.pointer (some ⟨c.R, 0, none⟩)] W (Tells c W0 W exC (X τ))) (hdec : Dec X)
    {W0 W : World} {σ : PS} (h : Car c W0 W σ) (hlen : σ.ts.length ≤ n) {R : Ex × PS} (hR : atomF c.En X σ = R) :
    Calls Try.prog 131 #[.pointer (some ⟨c.R, 0, none⟩)] W (Tells c W0 W exC R) := by
  have hR0 := h.rd.lt
  have hR1 : c.R < (W.alloc (.cells #[.int .i64 0, .int .i64 0, .string ⟨#[]⟩, .int .i64 0, .slice none 0 0, .slice none 0 0] 43)).heap.size := by simp; omega
  obtain ⟨K, hK⟩ : ∃ K : Int, (σ.next.k : Int) = K := ⟨_, rfl⟩
  obtain ⟨S, hS⟩ : ∃ S, strB σ.next.s = S := ⟨_, rfl⟩
  obtain ⟨b, hb⟩ : ∃ b, beg σ.next = b := ⟨_, rfl⟩
  have hb10 : b ≤ 10 := hb ▸ beg_le _
  unfold atomF at hR
  rw [hb] at hR
  have HF := Lib.hid (next_fit h.rd)
  have H0 := Lib.hid h
  have H1 := Lib.hid (h.begin (.cells #[.int .i64 0, .int .i64 0, .string ⟨#[]⟩, .int .i64 0, .slice none 0 0, .slice none 0 0] 43))
  have HONE2 := Lib.hid HONE
  have HD := Lib.hid hdec
  have hWs : (W.alloc (.cells #[.int .i64 0, .int .i64 0, .string ⟨#[]⟩, .int .i64 0, .slice none 0 0, .slice none 0 0] 43)).heap.size = W.heap.size + 1 := by simp
  have HK := Lib.hid hK
  have HS := Lib.hid hS
  have HB := Lib.hid hb
  clear h HONE hdec hK hS
  by_cases h1 : isLeaf b = true
  · rw [if_pos h1] at hR
    have hk0 : σ.next.k ≠ 0 := by
      intro e
      rw [← hb] at h1
      unfold beg at h1
      have hne : ∀ s : Srt, s.k ≠ 0 → σ.next ≠ s := fun s hs q => hs (q ▸ e)
      simp [hne sName (by decide), hne sCon (by decide), hne sInt (by decide), hne (sW tTrue) (by decide), hne (sW tFalse) (by decide), hne (sS tBack) (by decide), hne (sW tLet) (by decide), hne (sS tLpar) (by decide), hne (sW tIf) (by decide), hne (sW tCase) (by decide), isLeaf] at h1
    have HTK : Hid (σ.take c.En σ.next = (σ.head, σ.tail)) := by show _ = _; exact tail_take (sees_of rfl)
    have HR : Hid (R = (leafE b σ.head, σ.tail)) := Lib.hid hR.symm
    have HK0 := Lib.hid hk0
    obtain ⟨V, hV⟩ : ∃ V, V = (if b = 4 then (⟨#[]⟩ : ByteArray) else strB σ.head.s) := ⟨_, rfl⟩
    obtain ⟨Z, hZ⟩ : ∃ Z : Int, Z = (if b = 4 then (if σ.head.s = tTrue then 1 else 0) else (σ.head.n : Int)) := ⟨_, rfl⟩
    have HL : Hid (∀ w, Calls Try.prog 135 #[.int .i64 (b : Int), .agg #[.int .i64 (σ.head.k : Int), .int .i64 (σ.head.p : Int), .string (strB σ.head.s), .int .i64 (σ.head.n : Int)]] w fun e w' => e = .returned (.agg #[.int .i64 (b : Int), .int .i64 (σ.head.p : Int), .string V, .int .i64 Z, .slice none 0 0, .slice none 0 0]) ∧ Below w.heap.size w w') := fun w => by
      rw [hV, hZ]; exact z_leaf b σ.head (New W) w
    have HI : Hid (∀ S w, IsV S w (exC (leafE b σ.head)) (.agg #[.int .i64 (b : Int), .int .i64 (σ.head.p : Int), .string V, .int .i64 Z, .slice none 0 0, .slice none 0 0])) := fun S w => by
      rw [hV, hZ]; exact leaf_is b σ.head S w
    have hc4 : b = 1 ∨ b = 2 ∨ b = 3 ∨ b = 4 := by simp [isLeaf] at h1; omega
    clear hV hZ hR hk0 hb10 h1 hb
    have HTT : Hid (∀ (W' : World), Car c (W.alloc (.cells #[.int .i64 0, .int .i64 0, .string ⟨#[]⟩, .int .i64 0, .slice none 0 0, .slice none 0 0] 43)) W' σ → Calls Try.prog 59 #[.pointer (some ⟨c.R, 0, none⟩), .agg #[.int .i64 K, .string S]] W' fun e w' =>
      e = .returned (.agg #[.int .i64 (σ.head.k : Int), .int .i64 (σ.head.p : Int), .string (strB σ.head.s), .int .i64 (σ.head.n : Int)]) ∧ Car c (W.alloc (.cells #[.int .i64 0, .int .i64 0, .string ⟨#[]⟩, .int .i64 0, .slice none 0 0, .slice none 0 0] 43)) w' σ.tail ∧ Out (fun b => b = c.R) W' w') := fun W' hc => k_take hc σ.next HF.out HK0.out HK.out HS.out HTK.out
    generalize hq1 : (σ.head.k : Int) = t1 at *
    generalize hq2 : (σ.head.p : Int) = t2 at *
    generalize hq3 : strB σ.head.s = t3 at *
    generalize hq4 : (σ.head.n : Int) = t4 at *
    clear hq1 hq2 hq3 hq4
    rcases hc4 with rfl | rfl | rfl | rfl
    · go_enter Try.func131, Try.ntmps131
      go_wp2_with (go_at_call 98; refine (k_next H1.out HK.out HS.out).mono ?_; clear H1; rintro e w1 ⟨rfl, H1, ho1⟩; have hB3l := H1.size; have HB3 := Lib.hid (Box.new w1 117 [.int .i64 K, .string S]); clear ho1; replace H1 := Lib.hid (H1.alloc (.cells #[.int .i64 K, .string S] 117)); have hc2 := bx_cells H1.out.rd; have hlook := beg_look (RD.drew H1.out.rd) HF.out HK.out HS.out HB.out; obtain ⟨_, _, _, _⟩ := HB3.out.two; have hcR := H1.out.rd.lt)
      go_region
      go_wp2_with (first
        | (go_at_call 59; refine (HTT.out _ (Car.drew H1.out)).mono ?_; clear H1; rintro e w2 ⟨rfl, H1, ho1⟩; clear ho1; replace H1 := Lib.hid H1)
        | (go_at_call 135; refine (HL.out _).mono ?_; rintro e w3 ⟨rfl, hb3⟩; replace H1 := Lib.hid (H1.out.under hb3); clear hb3; have hb4 := H1.res hR0; obtain ⟨_, _, _, _, _, _⟩ := six_cells hb4; obtain ⟨_, _, _, _, _, _⟩ := six_frozen hb4; clear hb4;))
      refine bodyPost_ret (v := .agg #[.int .i64 1, .int .i64 t2, .string V, .int .i64 Z, .slice none 0 0, .slice none 0 0]) (by simp only [results, Try.results131]; go_simp <;> rfl) rfl ?_
      refine tells H0.out H1.out (by repeat (first | with_reducible exact Nb.refl _ _ | with_reducible refine Nb.set ?_ _ _ | with_reducible refine Nb.alloc ?_ _ | with_reducible refine Nb.drew ?_)) (by rw [HR.out]) ?_
      rw [HR.out]
      exact HI.out _ _
    · go_enter Try.func131, Try.ntmps131
      go_wp2_with (go_at_call 98; refine (k_next H1.out HK.out HS.out).mono ?_; clear H1; rintro e w1 ⟨rfl, H1, ho1⟩; have hB3l := H1.size; have HB3 := Lib.hid (Box.new w1 117 [.int .i64 K, .string S]); clear ho1; replace H1 := Lib.hid (H1.alloc (.cells #[.int .i64 K, .string S] 117)); have hc2 := bx_cells H1.out.rd; have hlook := beg_look (RD.drew H1.out.rd) HF.out HK.out HS.out HB.out; obtain ⟨_, _, _, _⟩ := HB3.out.two; have hcR := H1.out.rd.lt)
      go_region
      go_wp2_with (first
        | (go_at_call 59; refine (HTT.out _ (Car.drew H1.out)).mono ?_; clear H1; rintro e w2 ⟨rfl, H1, ho1⟩; clear ho1; replace H1 := Lib.hid H1)
        | (go_at_call 135; refine (HL.out _).mono ?_; rintro e w3 ⟨rfl, hb3⟩; replace H1 := Lib.hid (H1.out.under hb3); clear hb3; have hb4 := H1.res hR0; obtain ⟨_, _, _, _, _, _⟩ := six_cells hb4; obtain ⟨_, _, _, _, _, _⟩ := six_frozen hb4; clear hb4;))
      refine bodyPost_ret (v := .agg #[.int .i64 2, .int .i64 t2, .string V, .int .i64 Z, .slice none 0 0, .slice none 0 0]) (by simp only [results, Try.results131]; go_simp <;> rfl) rfl ?_
      refine tells H0.out H1.out (by repeat (first | with_reducible exact Nb.refl _ _ | with_reducible refine Nb.set ?_ _ _ | with_reducible refine Nb.alloc ?_ _ | with_reducible refine Nb.drew ?_)) (by rw [HR.out]) ?_
      rw [HR.out]
      exact HI.out _ _
    · go_enter Try.func131, Try.ntmps131
      go_wp2_with (go_at_call 98; refine (k_next H1.out HK.out HS.out).mono ?_; clear H1; rintro e w1 ⟨rfl, H1, ho1⟩; have hB3l := H1.size; have HB3 := Lib.hid (Box.new w1 117 [.int .i64 K, .string S]); clear ho1; replace H1 := Lib.hid (H1.alloc (.cells #[.int .i64 K, .string S] 117)); have hc2 := bx_cells H1.out.rd; have hlook := beg_look (RD.drew H1.out.rd) HF.out HK.out HS.out HB.out; obtain ⟨_, _, _, _⟩ := HB3.out.two; have hcR := H1.out.rd.lt)
      go_region
      go_wp2_with (first
        | (go_at_call 59; refine (HTT.out _ (Car.drew H1.out)).mono ?_; clear H1; rintro e w2 ⟨rfl, H1, ho1⟩; clear ho1; replace H1 := Lib.hid H1)
        | (go_at_call 135; refine (HL.out _).mono ?_; rintro e w3 ⟨rfl, hb3⟩; replace H1 := Lib.hid (H1.out.under hb3); clear hb3; have hb4 := H1.res hR0; obtain ⟨_, _, _, _, _, _⟩ := six_cells hb4; obtain ⟨_, _, _, _, _, _⟩ := six_frozen hb4; clear hb4;))
      refine bodyPost_ret (v := .agg #[.int .i64 3, .int .i64 t2, .string V, .int .i64 Z, .slice none 0 0, .slice none 0 0]) (by simp only [results, Try.results131]; go_simp <;> rfl) rfl ?_
      refine tells H0.out H1.out (by repeat (first | with_reducible exact Nb.refl _ _ | with_reducible refine Nb.set ?_ _ _ | with_reducible refine Nb.alloc ?_ _ | with_reducible refine Nb.drew ?_)) (by rw [HR.out]) ?_
      rw [HR.out]
      exact HI.out _ _
    · go_enter Try.func131, Try.ntmps131
      go_wp2_with (go_at_call 98; refine (k_next H1.out HK.out HS.out).mono ?_; clear H1; rintro e w1 ⟨rfl, H1, ho1⟩; have hB3l := H1.size; have HB3 := Lib.hid (Box.new w1 117 [.int .i64 K, .string S]); clear ho1; replace H1 := Lib.hid (H1.alloc (.cells #[.int .i64 K, .string S] 117)); have hc2 := bx_cells H1.out.rd; have hlook := beg_look (RD.drew H1.out.rd) HF.out HK.out HS.out HB.out; obtain ⟨_, _, _, _⟩ := HB3.out.two; have hcR := H1.out.rd.lt)
      go_region
      go_wp2_with (first
        | (go_at_call 59; refine (HTT.out _ (Car.drew H1.out)).mono ?_; clear H1; rintro e w2 ⟨rfl, H1, ho1⟩; clear ho1; replace H1 := Lib.hid H1)
        | (go_at_call 135; refine (HL.out _).mono ?_; rintro e w3 ⟨rfl, hb3⟩; replace H1 := Lib.hid (H1.out.under hb3); clear hb3; have hb4 := H1.res hR0; obtain ⟨_, _, _, _, _, _⟩ := six_cells hb4; obtain ⟨_, _, _, _, _, _⟩ := six_frozen hb4; clear hb4;))
      refine bodyPost_ret (v := .agg #[.int .i64 4, .int .i64 t2, .string V, .int .i64 Z, .slice none 0 0, .slice none 0 0]) (by simp only [results, Try.results131]; go_simp <;> rfl) rfl ?_
      refine tells H0.out H1.out (by repeat (first | with_reducible exact Nb.refl _ _ | with_reducible refine Nb.set ?_ _ _ | with_reducible refine Nb.alloc ?_ _ | with_reducible refine Nb.drew ?_)) (by rw [HR.out]) ?_
      rw [HR.out]
      exact HI.out _ _
  · rw [if_neg h1] at hR
    by_cases h8 : b = 8
    · subst h8
      rw [if_pos rfl] at hR
      have HS8 := Lib.hid (sees_of ((beg_sees hb).2.2.1 rfl))
      have HR0 := Lib.hid hR
      clear hb hb10 h1 hR
      go_enter Try.func131, Try.ntmps131
      go_wp2_with (go_at_call 98; refine (k_next H1.out HK.out HS.out).mono ?_; clear H1; rintro e w1 ⟨rfl, H1, ho1⟩; have hB3l := H1.size; have HB3 := Lib.hid (Box.new w1 117 [.int .i64 K, .string S]); clear ho1; replace H1 := Lib.hid (H1.alloc (.cells #[.int .i64 K, .string S] 117)); have hc2 := bx_cells H1.out.rd; have hlook := beg_look (RD.drew H1.out.rd) HF.out HK.out HS.out HB.out; obtain ⟨_, _, _, _⟩ := HB3.out.two; have hcR := H1.out.rd.lt)
      go_region
      go_wp2_with (go_at_call 136; refine (k_tuple HONE2.out HD.out (Car.drew H1.out) hlen HS8.out HR0.out).mono ?_; clear H1; rintro e w1 ⟨v1, rfl, hv1, H1, ho1⟩; obtain ⟨x0, x1, x2, x3, x4, x5, x6, x7, x8, x9, hx9, _⟩ := hv1.exs; subst hx9; have hb4 := H1.res hR0; obtain ⟨_, _, _, _, _, _⟩ := six_cells hb4; obtain ⟨_, _, _, _, _, _⟩ := six_frozen hb4; clear hb4; have HV := Lib.hid hv1; clear ho1 hv1 ; replace H1 := Lib.hid H1)
      refine bodyPost_ret (v := .agg #[.int .i64 x0, .int .i64 x1, .string (strB x3), .int .i64 x2, .slice x4 x6 x8, .slice x5 x7 x9]) (by simp only [results, Try.results131]; go_simp <;> rfl) rfl ?_
      refine tells H0.out H1.out (by repeat (first | with_reducible exact Nb.refl _ _ | with_reducible refine Nb.set ?_ _ _ | with_reducible refine Nb.alloc ?_ _ | with_reducible refine Nb.drew ?_)) rfl ?_
      exact HV.out
    · rw [if_neg h8] at hR
      have HR : Hid (R = (Ex.zero, σ.stop c.En)) := Lib.hid hR.symm
      have hd : ((b : Int) == 1) = false ∧ ((b : Int) == 2) = false ∧ ((b : Int) == 3) = false ∧ ((b : Int) == 4) = false ∧ ((b : Int) == 8) = false := by
        simp [isLeaf] at h1
        simp; omega
      obtain ⟨e1, e2, e3, e4, e8⟩ := hd
      clear hb hb10 h1 h8 hR
      go_enter Try.func131, Try.ntmps131
      go_wp2_with (go_at_call 98; refine (k_next H1.out HK.out HS.out).mono ?_; clear H1; rintro e w1 ⟨rfl, H1, ho1⟩; have hB3l := H1.size; have HB3 := Lib.hid (Box.new w1 117 [.int .i64 K, .string S]); clear ho1; replace H1 := Lib.hid (H1.alloc (.cells #[.int .i64 K, .string S] 117)); have hc2 := bx_cells H1.out.rd; have hlook := beg_look (RD.drew H1.out.rd) HF.out HK.out HS.out HB.out; obtain ⟨_, _, _, _⟩ := HB3.out.two; have hcR := H1.out.rd.lt)
      go_region
      go_wp2_with (go_at_call 103; refine (k_stop (Car.drew H1.out)).mono ?_; clear H1; rintro e w2 ⟨rfl, H1, ho1⟩; have hb4 := H1.res hR0; obtain ⟨_, _, _, _, _, _⟩ := six_cells hb4; obtain ⟨_, _, _, _, _, _⟩ := six_frozen hb4; clear hb4; clear ho1; replace H1 := Lib.hid H1)
      refine bodyPost_ret (v := .agg #[.int .i64 0, .int .i64 0, .string ⟨#[]⟩, .int .i64 0, .slice none 0 0, .slice none 0 0]) (by simp only [results, Try.results131]; go_simp <;> rfl) rfl ?_
      refine tells H0.out H1.out (by repeat (first | with_reducible exact Nb.refl _ _ | with_reducible refine Nb.set ?_ _ _ | with_reducible refine Nb.alloc ?_ _ | with_reducible refine Nb.drew ?_)) (by rw [HR.out]) ?_
      rw [HR.out]
      exact zero_ex _ _

end Go.Proofs.Ytccilgemfkdmkaa

namespace Go.Proofs.Ytccilgemfkdmkaa
open Go.RowKit Go.Maps
set_option linter.unusedVariables false
set_option linter.unusedSimpArgs false

theorem namesL_fst : ∀ l : List Tk, (namesL l).1.length ≤ l.length
  | [] => by simp [namesL]
  | t :: r => by
    unfold namesL; split
    · have := namesL_fst r; simp; omega
    · simp
theorem k_lams {c : Cx} {W0 W : World} {σ : PS} (h : Car c W0 W σ) {p : Int} {names : List By} {body : Ex} {a : Option Addr} {m cap : Nat} {v : Value} (hm : names.length = m) (hl : m ≤ 1000000) (hN : InC (New W0) W (.s m 1 (strsC names)) (.slice a m cap)) (hv : IsV (New W0) W (exC body) v) {R : Ex} (hR : lams p names body = R) :
    Calls Try.prog 104 #[.int .i64 p, .slice a m cap, v] W fun e w' => ∃ v', e = .returned v' ∧ IsV (New W0) w' (exC R) v' ∧ Car c W0 w' σ ∧ Out (fun b => b = c.R) W w' := by
  subst hm hR
  exact (z_lams W0 W p names body a cap v h.size hl hN hv).mono fun e w' ⟨v', h1, h2, h3⟩ => ⟨v', h1, h2, h.under h3, Out.of_below h3⟩
theorem strs_at {S : Nat → Prop} {w : World} {l : List By} {a : Option Addr} {m cp : Nat} (h : InC S w (.s l.length 1 (strsC l)) (.slice a m cp)) : ∀ ad, a = some ad → ∀ j u, (l.map fun s => Value.string (strB s))[j]? = some u → w.cell? (ad.add j) = some u := by
  intro ad had j u hu
  obtain ⟨_, h2 | ⟨b, off, h2, _, _, h5⟩⟩ := names_cells h
  · rw [List.length_eq_zero_iff] at h2; subst h2; simp at hu
  · rw [h2] at had; cases had
    have hj : j < l.length := by have := (List.getElem?_eq_some_iff.1 hu).1; simpa using this
    rw [Addr.add_lit, h5 j hj]
    rw [List.getElem?_map, List.getElem?_eq_getElem hj] at hu
    simp at hu
    simp [List.getD, List.getElem?_eq_getElem hj, hu]

set_option maxRecDepth 100000 in
set_option maxHeartbeats 4000000 in
theorem k_lam {c : Cx} {n : Nat} {X : PS → Ex × PS} (HONE : ∀ (W0 W : World) (τ : PS), Car c W0 W τ → τ.ts.length < n → Calls Try.prog 105 #[.pointer (some ⟨c.R, 0, none⟩)] W (Tells c W0 W exC (X τ))) (hdec : Dec X)
    {W0 W : World} {σ : PS} (h : Car c W0 W σ) (hlen : σ.ts.length ≤ n) (hsee : σ.sees (sS tBack) = true) {R : Ex × PS} (hR : lamF c.En X σ = R) :
    Calls Try.prog 119 #[.pointer (some ⟨c.R, 0, none⟩)] W (Tells c W0 W exC R) := by
  obtain ⟨i0, hi0, hz0, hz1, hz2⟩ := info_parts Try.zstrInfo
  have hfs := fld_s
  have hfp := fld_p
  have hR0 := h.rd.lt
  have hR1 : c.R < (W.alloc (.cells #[.int .i64 0, .int .i64 0, .string ⟨#[]⟩, .int .i64 0, .slice none 0 0, .slice none 0 0] 43)).heap.size := by simp; omega
  have hlen6 := h.rd.len
  obtain ⟨A, hA⟩ : ∃ A, σ.take c.En (sS tBack) = A := ⟨_, rfl⟩
  obtain ⟨B, hB⟩ : ∃ B, A.2.take c.En sName = B := ⟨_, rfl⟩
  obtain ⟨M, hM⟩ : ∃ M, B.2.names = M := ⟨_, rfl⟩
  obtain ⟨D, hD⟩ : ∃ D, M.2.take c.En (sS tArrow) = D := ⟨_, rfl⟩
  obtain ⟨Y, hY⟩ : ∃ Y, X D.2 = Y := ⟨_, rfl⟩
  have l1 : A.2.ts.length < σ.ts.length := by rw [← hA]; exact take_lt hsee (sS_ne _)
  have l2 : B.2.ts.length ≤ A.2.ts.length := by rw [← hB]; exact take_len _ _ _
  have l3 : M.2.ts.length ≤ B.2.ts.length := by rw [← hM]; exact names_len _
  have l4 : D.2.ts.length ≤ M.2.ts.length := by rw [← hD]; exact take_len _ _ _
  have l5 : M.1.length ≤ B.2.ts.length := by rw [← hM]; exact namesL_fst _
  have HR : Hid (R = (lams A.1.p (B.1.s :: M.1) Y.1, Y.2)) := by show _ = _; rw [← hR, ← hY, ← hD, ← hM, ← hB, ← hA]; rfl
  have HX : Hid (∀ (W0 W : World), Car c W0 W D.2 → Calls Try.prog 105 #[.pointer (some ⟨c.R, 0, none⟩)] W (Tells c W0 W exC Y)) := fun W0 W hc => hY ▸ HONE W0 W D.2 hc (by omega)
  have HML : Hid (1 + M.1.length ≤ 1000000) := by show _ ≤ _; omega
  have HA := Lib.hid hA
  have HB := Lib.hid hB
  have HM := Lib.hid hM
  have HD := Lib.hid hD
  have H0 := Lib.hid h
  have H1 := Lib.hid (h.begin (.cells #[.int .i64 0, .int .i64 0, .string ⟨#[]⟩, .int .i64 0, .slice none 0 0, .slice none 0 0] 43))
  clear h hR HONE hdec hA hB hM hD hY l1 l2 l3 l4 l5 hsee hlen
  obtain ⟨L, hL⟩ : ∃ L, M.1.length = L := ⟨_, rfl⟩
  have HL := Lib.hid hL
  rw [hL] at HML
  clear hL
  go_enter Try.func119, Try.ntmps119
  go_wp2_with (first
    | (go_at_call 56; refine (k_sign H1.out _).mono ?_; clear H1; rintro e w1 ⟨rfl, H1, ho1⟩; (try (replace HCN := Lib.hid (stayC ho1 hR1 HCN.out))); clear ho1; replace H1 := Lib.hid H1)
    | (go_at_call 54; refine (k_some H1.out _).mono ?_; clear H1; rintro e w1 ⟨rfl, H1, ho1⟩; clear ho1; replace H1 := Lib.hid H1)
    | (go_at_call 59; refine (k_take H1.out (sS tBack) (sortFit (by decide) (by decide)) (by decide) rfl rfl HA.out).mono ?_; clear HA; clear H1; rintro e w1 ⟨rfl, H1, ho1⟩; clear ho1; replace H1 := Lib.hid H1)
    | (go_at_call 59; refine (k_take H1.out (sName) (sortFit (by decide) (by decide)) (by decide) rfl rfl HB.out).mono ?_; clear HB; clear H1; rintro e w1 ⟨rfl, H1, ho1⟩; clear ho1; replace H1 := Lib.hid H1)
    | (go_at_call 99; refine (k_names H1.out HM.out).mono ?_; clear HM; clear H1; rw [HL.out]; rintro e w1 ⟨a1, cp1, rfl, hc1, hn1, H1, ho1⟩; have HCN := Lib.hid hc1; have HNN := Lib.hid hn1; clear ho1 hc1 hn1; replace H1 := Lib.hid H1)
    | (go_at_call 59; refine (k_take H1.out (sS tArrow) (sortFit (by decide) (by decide)) (by decide) rfl rfl HD.out).mono ?_; clear HD; clear H1; rintro e w1 ⟨rfl, H1, ho1⟩; (try (replace HCN := Lib.hid (stayC ho1 hR1 HCN.out))); have hwa := H1.size; have hwR := H1.rd.lt; clear ho1; replace H1 := Lib.hid H1)
    | (at_builtin; go_loud (refine wpList_append_any rfl _ _ 53 rfl w1.heap.size 9 i0 (.string ⟨#[]⟩) 1 16 Try.underlying53 hi0 hz0 hz1 hz2 rfl (by decide) (.slice (some ⟨w1.heap.size, 0, none⟩) 1 1) 1 [.string (strB B.1.s)] rfl (World.ownsRow_lit (base := w1.heap.size) (e := 9) (size := 1) w1 #[.string (strB B.1.s)] 1 (Nat.le_refl _) (by decide) rfl) a1 L cp1 (M.1.map fun s => Value.string (strB s)) rfl HNN.out ?d1 (strs_at (by rw [HL.out]; exact HCN.out.alloc _)) ?d3 ?d4 ?d5 ?d6 ?_)))
  case d1 => simp [HL.out]
  case d3 => intro u hu; simp at hu; obtain ⟨s, _, rfl⟩ := hu; rfl
  case d4 => have := HML.out; unfold maxLen; omega
  case d5 => have := HML.out; omega
  case d6 => simp
  intro v9 w9 hown9 hgrow
  have hB9 : Below w1.heap.size w1 w9 := ((Below.refl _ w1).alloc (Nat.le_refl _) (.cells #[.string (strB B.1.s)] 9)).grown hgrow (by simp) fun q hq => by cases hq; exact Nat.le_refl _
  replace H1 := Lib.hid (H1.out.under hB9)
  obtain ⟨a9, c9, hv9⟩ := own_shape hown9
  subst hv9
  have HCL : Hid (InC (New (W.alloc (.cells #[.int .i64 0, .int .i64 0, .string ⟨#[]⟩, .int .i64 0, .slice none 0 0, .slice none 0 0] 43))) w9 (.s (1 + L) 1 (strsC (B.1.s :: M.1))) (.slice a9 (1 + L) c9)) := InC.of_owns hown9 (strsC_ins _ _ (B.1.s :: M.1)) (fun b hb => by have := ownsRow_lo hown9 b hb; unfold New; omega) (by simp [strsC, HL.out]; omega)
  clear hown9 hgrow hB9 HCN HNN
  go_wp2_with (first
    | (go_at_call 105; refine (HX.out _ _ H1.out).mono ?_; clear H1; rintro e w1 ⟨v1, rfl, hv1, H1, ho1⟩; obtain ⟨x0, x1, x2, x3, x4, x5, x6, x7, x8, x9, hx9, _⟩ := hv1.exs; subst hx9; (try (replace HCL := Lib.hid (stayC ho1 hR1 HCL.out))); have HV := Lib.hid hv1; clear ho1 hv1 ; replace H1 := Lib.hid H1)
    | (go_at_call 104; refine (k_lams H1.out (names := B.1.s :: M.1) (body := Y.1) (by simp [HL.out]; omega) HML.out HCL.out HV.out rfl).mono ?_; clear H1; rintro e w1 ⟨v1, rfl, hv1, H1, ho1⟩; obtain ⟨y0, y1, y2, y3, y4, y5, y6, y7, y8, y9, hy9, _⟩ := hv1.exs; subst hy9; have hb4 := H1.res hR0; obtain ⟨_, _, _, _, _, _⟩ := six_cells hb4; obtain ⟨_, _, _, _, _, _⟩ := six_frozen hb4; clear hb4; have HW := Lib.hid hv1; clear ho1 hv1; replace H1 := Lib.hid H1))
  refine bodyPost_ret (v := .agg #[.int .i64 y0, .int .i64 y1, .string (strB y3), .int .i64 y2, .slice y4 y6 y8, .slice y5 y7 y9]) (by simp only [results, Try.results119]; go_simp <;> rfl) rfl ?_
  refine tells H0.out H1.out (by repeat (first | with_reducible exact Nb.refl _ _ | with_reducible refine Nb.set ?_ _ _ | with_reducible refine Nb.alloc ?_ _ | with_reducible refine Nb.drew ?_)) (by rw [HR.out]) ?_
  rw [HR.out]
  exact HW.out

end Go.Proofs.Ytccilgemfkdmkaa

namespace Go.Proofs.Ytccilgemfkdmkaa
open Go.RowKit Go.Maps
set_option linter.unusedVariables false
set_option linter.unusedSimpArgs false

theorem eight_cells {w : World} {b : Nat} {t : TypeId} {c0 c1 c2 c3 c4 c5 c6 c7 : Value} (h : Box w b t [c0, c1, c2, c3, c4, c5, c6, c7]) : w.cell? ⟨b, 0, none⟩ = some c0 ∧ w.cell? ⟨b, 1, none⟩ = some c1 ∧ w.cell? ⟨b, 2, none⟩ = some c2 ∧ w.cell? ⟨b, 3, none⟩ = some c3 ∧ w.cell? ⟨b, 4, none⟩ = some c4 ∧ w.cell? ⟨b, 5, none⟩ = some c5 ∧ w.cell? ⟨b, 6, none⟩ = some c6 ∧ w.cell? ⟨b, 7, none⟩ = some c7 :=
  ⟨h.cell 0, h.cell 1, h.cell 2, h.cell 3, h.cell 4, h.cell 5, h.cell 6, h.cell 7⟩
theorem eight_frozen {w : World} {b : Nat} {t : TypeId} {c0 c1 c2 c3 c4 c5 c6 c7 : Value} (h : Box w b t [c0, c1, c2, c3, c4, c5, c6, c7]) : w.frozen? ⟨b, 0, none⟩ = false ∧ w.frozen? ⟨b, 1, none⟩ = false ∧ w.frozen? ⟨b, 2, none⟩ = false ∧ w.frozen? ⟨b, 3, none⟩ = false ∧ w.frozen? ⟨b, 4, none⟩ = false ∧ w.frozen? ⟨b, 5, none⟩ = false ∧ w.frozen? ⟨b, 6, none⟩ = false ∧ w.frozen? ⟨b, 7, none⟩ = false :=
  ⟨h.frozen 0, h.frozen 1, h.frozen 2, h.frozen 3, h.frozen 4, h.frozen 5, h.frozen 6, h.frozen 7⟩
theorem cells12_set8 {w : World} {b B : Nat} {t : TypeId} {c0 c1 c2 c3 v0 v1 v2 v3 v4 v5 v6 v7 : Value} (h : Box w b t [c0, c1, c2, c3]) (hn : b ≠ B) :
    ((((((((w.setCell ⟨B, 0, none⟩ v0).setCell ⟨B, 1, none⟩ v1).setCell ⟨B, 2, none⟩ v2).setCell ⟨B, 3, none⟩ v3).setCell ⟨B, 4, none⟩ v4).setCell ⟨B, 5, none⟩ v5).setCell ⟨B, 6, none⟩ v6).setCell ⟨B, 7, none⟩ v7).cell? ⟨b, 1, none⟩ = some c1 ∧ ((((((((w.setCell ⟨B, 0, none⟩ v0).setCell ⟨B, 1, none⟩ v1).setCell ⟨B, 2, none⟩ v2).setCell ⟨B, 3, none⟩ v3).setCell ⟨B, 4, none⟩ v4).setCell ⟨B, 5, none⟩ v5).setCell ⟨B, 6, none⟩ v6).setCell ⟨B, 7, none⟩ v7).cell? ⟨b, 2, none⟩ = some c2 := by
  have k := (((((((h.setOther (a := ⟨B, 0, none⟩) hn v0).setOther (a := ⟨B, 1, none⟩) hn v1).setOther (a := ⟨B, 2, none⟩) hn v2).setOther (a := ⟨B, 3, none⟩) hn v3).setOther (a := ⟨B, 4, none⟩) hn v4).setOther (a := ⟨B, 5, none⟩) hn v5).setOther (a := ⟨B, 6, none⟩) hn v6).setOther (a := ⟨B, 7, none⟩) hn v7
  exact ⟨k.cell 1, k.cell 2⟩
theorem IsV.of_bd {S : Nat → Prop} {w : World} {s : By} {p : Int} {x : Ex} {us : List Value} (h : IsV S w (exC x) (.agg us.toArray)) {vs : List Value} (hv : vs = .string (strB s) :: .int .i64 p :: us) : IsV S w (bdC ⟨s, p, x⟩) (.agg vs.toArray) := by
  subst hv
  exact ⟨_, rfl, InS.cons (.v _) (InS.cons (.v _) (by simpa [Value.cells] using h.cells))⟩
theorem tokBox {c : Cx} {w : World} {t0 t1 t3 : Int} {t2 : ByteArray} {B : Nat} (h : Box w B 93 [.int .i64 t0, .int .i64 t1, .string t2, .int .i64 t3]) {w' : World} (ho : Out (fun b => b = c.R) w w') (hn : B ≠ c.R) : Box w' B 93 [.int .i64 t0, .int .i64 t1, .string t2, .int .i64 t3] := ho.box h hn

set_option maxRecDepth 100000 in
set_option maxHeartbeats 4000000 in
theorem k_bind {c : Cx} {n : Nat} {X : PS → Ex × PS} (HONE : ∀ (W0 W : World) (τ : PS), Car c W0 W τ → τ.ts.length < n → Calls Try.prog 105 #[.pointer (some ⟨c.R, 0, none⟩)] W (Tells c W0 W exC (X τ))) (hdec : Dec X)
    {W0 W : World} {σ : PS} (h : Car c W0 W σ) (hlen : σ.ts.length < n) {R : Bd × PS} (hR : bindF c.En X σ = R) :
    Calls Try.prog 60 #[.pointer (some ⟨c.R, 0, none⟩)] W (Tells c W0 W bdC R) := by
  have hfs := fld_s
  have hfp := fld_p
  have hR0 := h.rd.lt
  have hR1 : c.R < (W.alloc (.cells #[.string ⟨#[]⟩, .int .i64 0, .int .i64 0, .int .i64 0, .string ⟨#[]⟩, .int .i64 0, .slice none 0 0, .slice none 0 0] 45)).heap.size := by simp; omega
  have hWs : (W.alloc (.cells #[.string ⟨#[]⟩, .int .i64 0, .int .i64 0, .int .i64 0, .string ⟨#[]⟩, .int .i64 0, .slice none 0 0, .slice none 0 0] 45)).heap.size = W.heap.size + 1 := by simp
  have hlen6 := h.rd.len
  obtain ⟨A, hA⟩ : ∃ A, σ.take c.En sName = A := ⟨_, rfl⟩
  obtain ⟨M, hM⟩ : ∃ M, A.2.names = M := ⟨_, rfl⟩
  obtain ⟨D, hD⟩ : ∃ D, M.2.take c.En (sS tEq) = D := ⟨_, rfl⟩
  obtain ⟨Y, hY⟩ : ∃ Y, X D.2 = Y := ⟨_, rfl⟩
  have l1 : A.2.ts.length ≤ σ.ts.length := by rw [← hA]; exact take_len _ _ _
  have l3 : M.2.ts.length ≤ A.2.ts.length := by rw [← hM]; exact names_len _
  have l4 : D.2.ts.length ≤ M.2.ts.length := by rw [← hD]; exact take_len _ _ _
  have l5 : M.1.length ≤ A.2.ts.length := by rw [← hM]; exact namesL_fst _
  have HR : Hid (R = (⟨A.1.s, A.1.p, lams A.1.p M.1 Y.1⟩, Y.2)) := by show _ = _; rw [← hR, ← hY, ← hD, ← hM, ← hA]; rfl
  have HX : Hid (∀ (W0 W : World), Car c W0 W D.2 → Calls Try.prog 105 #[.pointer (some ⟨c.R, 0, none⟩)] W (Tells c W0 W exC Y)) := fun W0 W hc => hY ▸ HONE W0 W D.2 hc (by omega)
  have HML : Hid (M.1.length ≤ 1000000) := by show _ ≤ _; omega
  have HA := Lib.hid hA
  have HM := Lib.hid hM
  have HD := Lib.hid hD
  have H0 := Lib.hid h
  have H1 := Lib.hid (h.begin (.cells #[.string ⟨#[]⟩, .int .i64 0, .int .i64 0, .int .i64 0, .string ⟨#[]⟩, .int .i64 0, .slice none 0 0, .slice none 0 0] 45))
  clear h hR HONE hdec hA hM hD hY l1 l3 l4 l5 hlen
  obtain ⟨L, hL⟩ : ∃ L, M.1.length = L := ⟨_, rfl⟩
  have HL := Lib.hid hL
  rw [hL] at HML
  clear hL
  go_enter Try.func60, Try.ntmps60
  go_wp2_with (first
    | (go_at_call 54; refine (k_some H1.out _).mono ?_; clear H1; rintro e w1 ⟨rfl, H1, ho1⟩; clear ho1; replace H1 := Lib.hid H1)
    | (go_at_call 56; refine (k_sign H1.out _).mono ?_; clear H1; rintro e w1 ⟨rfl, H1, ho1⟩; (try (replace HCN := Lib.hid (stayC ho1 hR1 HCN.out))); replace HB3 := Lib.hid (tokBox (c := c) HB3.out ho1 hB3n); clear ho1; replace H1 := Lib.hid H1)
    | (go_at_call 59; refine (k_take H1.out sName (sortFit (by decide) (by decide)) (by decide) rfl rfl HA.out).mono ?_; clear HA; clear H1; rintro e w3 ⟨rfl, H1, ho1⟩; have hB3l := H1.size; have hB3n : w3.heap.size ≠ c.R := (by have := H1.rd.lt; omega); have hB3r : w3.heap.size ≠ W.heap.size := (by omega); have HB3 := Lib.hid (Box.new w3 93 [.int .i64 (A.1.k : Int), .int .i64 (A.1.p : Int), .string (strB A.1.s), .int .i64 (A.1.n : Int)]); clear ho1; replace H1 := Lib.hid (H1.alloc (.cells #[.int .i64 (A.1.k : Int), .int .i64 (A.1.p : Int), .string (strB A.1.s), .int .i64 (A.1.n : Int)] 93)))
    | (go_at_call 99; refine (k_names H1.out HM.out).mono ?_; clear HM; clear H1; rw [HL.out]; rintro e w1 ⟨a1, cp1, rfl, hc1, hn1, H1, ho1⟩; replace HB3 := Lib.hid (tokBox (c := c) HB3.out ho1 hB3n); have HCN := Lib.hid hc1; have HNN := Lib.hid hn1; clear ho1 hc1 hn1; replace H1 := Lib.hid H1)
    | (go_at_call 59; refine (k_take H1.out (sS tEq) (sortFit (by decide) (by decide)) (by decide) rfl rfl HD.out).mono ?_; clear HD; clear H1; rintro e w1 ⟨rfl, H1, ho1⟩; (try (replace HCN := Lib.hid (stayC ho1 hR1 HCN.out))); replace HB3 := Lib.hid (tokBox (c := c) HB3.out ho1 hB3n); have hS0 := (HB3.out.drew).cell 1; have hS1 := (HB3.out.drew).cell 2; have hcl := HB3.out.lt; clear ho1; replace H1 := Lib.hid H1))
  have HS0 : Hid ((World.drew w1).cell? ⟨w3.heap.size, 1, none⟩ = some (.int .i64 (A.1.p : Int)) ∧ (World.drew w1).cell? ⟨w3.heap.size, 2, none⟩ = some (.string (strB A.1.s))) := ⟨hS0, hS1⟩
  clear hS0 hS1
  go_region_held3 (fun w' => w'.cell? ⟨w3.heap.size, 1, none⟩ = some (.int .i64 (A.1.p : Int)) ∧ w'.cell? ⟨w3.heap.size, 2, none⟩ = some (.string (strB A.1.s)))
    (first
      | (with_reducible apply HS0.out)
      | (with_reducible apply HS1.out)
      | (with_reducible apply HS2.out)
      | (with_reducible apply cells12_set8; exact HB5.out; exact hB3r))
    (first
      | (go_at_call 105; (with_reducible refine (HX.out _ _ (Car.drew H1.out)).mono ?_); rintro e w4 ⟨v1, rfl, hv1, H4, ho1⟩; obtain ⟨x0, x1, x2, x3, x4, x5, x6, x7, x8, x9, hx9, _⟩ := hv1.exs; subst hx9; have HCN4 := Lib.hid (stayC ho1 hR1 HCN.out.drew); have HB4 := Lib.hid (tokBox (c := c) (Box.drew HB3.out) ho1 hB3n); have HS1 : Hid (w4.cell? ⟨w3.heap.size, 1, none⟩ = some (.int .i64 (A.1.p : Int)) ∧ w4.cell? ⟨w3.heap.size, 2, none⟩ = some (.string (strB A.1.s))) := ⟨HB4.out.cell 1, HB4.out.cell 2⟩; have HV := Lib.hid hv1; have H4 := Lib.hid H4; clear ho1 hv1)
      | (go_at_call 104; (with_reducible refine (k_lams H4.out (names := M.1) (body := Y.1) HL.out HML.out HCN4.out HV.out rfl).mono ?_); rintro e w5 ⟨v1, rfl, hv1, H5, ho1⟩; obtain ⟨y0, y1, y2, y3, y4, y5, y6, y7, y8, y9, hy9, _⟩ := hv1.exs; subst hy9; have HB5 := Lib.hid (tokBox (c := c) HB4.out ho1 hB3n); have HS2 : Hid (w5.cell? ⟨w3.heap.size, 1, none⟩ = some (.int .i64 (A.1.p : Int)) ∧ w5.cell? ⟨w3.heap.size, 2, none⟩ = some (.string (strB A.1.s))) := ⟨HB5.out.cell 1, HB5.out.cell 2⟩; have hb4 := H5.res hR0; obtain ⟨_, _, _, _, _, _, _, _⟩ := eight_cells hb4; obtain ⟨_, _, _, _, _, _, _, _⟩ := eight_frozen hb4; clear hb4; have HW := Lib.hid hv1; have H5 := Lib.hid H5; clear ho1 hv1)
      | fail)
  all_goals go_wp2_with fail
  refine bodyPost_ret (v := .agg #[.string (strB A.1.s), .int .i64 (A.1.p : Int), .int .i64 y0, .int .i64 y1, .string (strB y3), .int .i64 y2, .slice y4 y6 y8, .slice y5 y7 y9]) (by simp only [results, Try.results60]; go_simp <;> rfl) rfl ?_
  refine tells H0.out H5.out (by repeat (first | with_reducible exact Nb.refl _ _ | with_reducible refine Nb.set ?_ _ _ | with_reducible refine Nb.alloc ?_ _ | with_reducible refine Nb.drew ?_)) (by rw [HR.out]) ?_
  rw [HR.out]
  exact IsV.of_bd (s := A.1.s) (p := (A.1.p : Int)) (us := [.int .i64 y0, .int .i64 y1, .string (strB y3), .int .i64 y2, .slice y4 y6 y8, .slice y5 y7 y9]) HW.out rfl

end Go.Proofs.Ytccilgemfkdmkaa
