/- Package refs: the map of the places of Binds. A range over slices.Backward at Binds. Package refs: declared: of each name the place of the first Bind that has it. -/
import Derived.Test.YtgkeblpjmfdhkaaSFM
import Derived.Test.YtgkeblpjmfdhkaaYBM
import Derived.Test.YtgkeblpjmfdhkaaZEM
import Derived.OwnWalkIn
import Derived.TacticsInMore
namespace Go.Proofs.Ytgkeblpjmfdhkaa
open Go.RowKit Go.Maps
open Go.WideMaps (KeyLaw)
open Go.ChangeMaps (setBlock)
set_option linter.unusedVariables false
set_option linter.unusedSimpArgs false

def PInv (G : By → Option Nat) (D : DataW Unit) : Prop := IsMap D ∧ ∀ (s : By) (kl : Lit), s.length ≤ 1000000 → keyOf Try.prog 184 (rkV (atK s)) = some kl → Maps.has D kl = (G s).isSome ∧ D.atKey kl (.lit (.int .i64 0)) = .lit (.int .i64 (((G s).getD 0 : Nat) : Int))
/-- Block b is a map that tells of some names a place. -/
def PM (w : World) (b n : Nat) (G : By → Option Nat) : Prop := ∃ D, w.ownsMap Try.prog 184 (plainElem Try.prog 3) b n D ∧ PInv G D
theorem atK_fit {s : By} (h : s.length ≤ 1000000) : rkFit (atK s) := ⟨by show 3 ≤ 3; omega, h⟩
theorem atK_ne {s t : By} (h : s ≠ t) : atK s ≠ atK t := fun q => h (by have := congrArg RK.s q; exact this)
theorem PM.agree {w w' : World} {b n : Nat} {G : By → Option Nat} (h : PM w b n G) (hb : w'.heap[b]? = w.heap[b]?) : PM w' b n G := by
  obtain ⟨D, h1, h2⟩ := h; exact ⟨D, ownsMap_agree h1 hb, h2⟩
theorem PM.lt {w : World} {b n : Nat} {G : By → Option Nat} (h : PM w b n G) : b < w.heap.size := by
  obtain ⟨D, h1, h2⟩ := h; exact ownsMap_lt h1
theorem PM.below {w w' : World} {b n : Nat} {G : By → Option Nat} (h : PM w b n G) (hb : Below w.heap.size w w') : PM w' b n G := h.agree (hb.block b h.lt)
theorem PM.made (w : World) : PM (w.alloc (.map #[] 0)) w.heap.size 0 (fun _ => none) := ⟨_, World.ownsMap_made _ _ _ _, isMap_empty, fun s kl _ _ => by simp; exact ⟨rfl, rfl⟩⟩
theorem PM.look {w : World} {b n : Nat} {G : By → Option Nat} (h : PM w b n G) (s : By) (hs : s.length ≤ 1000000) :
    Sem.run Try.prog (Instr.lookup 135 (.map (some b)) (rkV (atK s)) true) w = .ok (.tuple #[.int .i64 (((G s).getD 0 : Nat) : Int), .bool (G s).isSome]) w := by
  obtain ⟨D, hm, hi⟩ := h
  obtain ⟨kl, hkl⟩ := rk_key (atK_fit hs)
  obtain ⟨h1, h2⟩ := hi.2 s kl hs hkl
  obtain ⟨v, ps, hrun, hv⟩ := hm.look_ok Try.rkKeyed Try.underlying135 (Try.zzeroInt _) (plainElem_int Try.underlying3 (by decide : (Lit.int .i64 0).wf = true)) hkl
  obtain ⟨c, rfl, hc, _⟩ := plainElem_int_inv Try.underlying3 hv
  simp only [Prod.mk.injEq] at hc
  rw [h2] at hc
  have e2 : (((G s).getD 0 : Nat) : Int) = c := by have := hc.1; cases this; rfl
  rw [h1] at hrun
  rw [e2]
  exact hrun
/-- A place is laid. -/
theorem PM.store {w : World} {b n : Nat} {G : By → Option Nat} (h : PM w b n G) (hn : n ≤ 10000000) (s : By) (hs : s.length ≤ 1000000) (i : Nat) (hi' : i ≤ 100000000) :
    ∃ w', Sem.run Try.prog (Instr.mapUpdate 135 (.map (some b)) (rkV (atK s)) (.int .i64 (i : Int))) w = .ok () w' ∧ PM w' b (n + 1) (fun t => if t = s then some i else G t) ∧ w.grownBy w' (some b) ∧ w'.heap.size = w.heap.size := by
  obtain ⟨D, hm, hi⟩ := h
  obtain ⟨kl, hkl⟩ := rk_key (atK_fit hs)
  have hkw : (Lit.int .i64 (i : Int)).wf = true := WalkArith.wf_i64 (by omega)
  obtain ⟨w9, hrun9, hown9, hturn9⟩ := World.ownsMap.store hm Try.rkKeyed Try.underlying135 (show n < maxLen by unfold maxLen; omega) hkl (plainElem_int Try.underlying3 hkw)
  refine ⟨w9, hrun9, ⟨_, hown9, hi.1.put _ _, fun t kl' ht hk' => ?_⟩, hturn9.grown, ?_⟩
  · have hl := Try.rkKeyed.key hkl
    have h2 := hi.2 t kl' ht hk'
    by_cases e : t = s
    · subst e
      rw [hkl] at hk'
      obtain rfl := Option.some.inj hk'
      dsimp only
      rw [if_pos rfl, atKey_put_same hi.1 hl]
      exact ⟨has_put_same hi.1 hl _, rfl⟩
    · have hne : kl' ≠ kl := fun q => atK_ne e (rkV_inj (Try.rkKeyed.inj (q ▸ hk') hkl))
      dsimp only
      rw [if_neg e, atKey_put_other hne]
      exact ⟨(has_put_other hne _).trans h2.1, h2.2⟩
  · obtain ⟨_, _, _, _, _, rfl⟩ := hturn9
    simp [ChangeMaps.setBlock]

end Go.Proofs.Ytgkeblpjmfdhkaa

namespace Go.Proofs.Ytgkeblpjmfdhkaa
open Go.RowKit Go.Shelf
attribute [local go_sem] Oper.semAt_some
set_option linter.unusedVariables false
set_option linter.unusedSimpArgs false

/-- The eight cells of a Bind. -/
structure BRow where
  s : By
  p : Int
  k : Int
  q : Int
  z : ByteArray
  n : Int
  a1 : Option Addr
  m1 : Nat
  d1 : Nat
  a2 : Option Addr
  m2 : Nat
  d2 : Nat
def bR0 : BRow := ⟨[], 0, 0, 0, ⟨#[]⟩, 0, none, 0, 0, none, 0, 0⟩
abbrev BRow.c1 (r : BRow) : Value := .int .i64 r.p
abbrev BRow.c2 (r : BRow) : Value := .int .i64 r.k
abbrev BRow.c3 (r : BRow) : Value := .int .i64 r.q
abbrev BRow.c4 (r : BRow) : Value := .string r.z
abbrev BRow.c5 (r : BRow) : Value := .int .i64 r.n
abbrev BRow.c6 (r : BRow) : Value := .slice r.a1 r.m1 r.d1
abbrev BRow.c7 (r : BRow) : Value := .slice r.a2 r.m2 r.d2
def rowBd (r : BRow) : Value := .agg #[.string (strB r.s), r.c1, r.c2, r.c3, r.c4, r.c5, r.c6, r.c7]
structure RowAt (w : World) (b o : Nat) (r : BRow) : Prop where
  c0 : w.cell? ⟨b, o, none⟩ = some (.string (strB r.s))
  c1 : w.cell? ⟨b, o + 1, none⟩ = some r.c1
  c2 : w.cell? ⟨b, o + 2, none⟩ = some r.c2
  c3 : w.cell? ⟨b, o + 3, none⟩ = some r.c3
  c4 : w.cell? ⟨b, o + 4, none⟩ = some r.c4
  c5 : w.cell? ⟨b, o + 5, none⟩ = some r.c5
  c6 : w.cell? ⟨b, o + 6, none⟩ = some r.c6
  c7 : w.cell? ⟨b, o + 7, none⟩ = some r.c7
theorem RowAt.agree {w w' : World} {b o : Nat} {r : BRow} (h : RowAt w b o r) (hb : w'.heap[b]? = w.heap[b]?) : RowAt w' b o r :=
  ⟨(World.cell?_of_block hb).trans h.c0, (World.cell?_of_block hb).trans h.c1, (World.cell?_of_block hb).trans h.c2, (World.cell?_of_block hb).trans h.c3, (World.cell?_of_block hb).trans h.c4, (World.cell?_of_block hb).trans h.c5, (World.cell?_of_block hb).trans h.c6, (World.cell?_of_block hb).trans h.c7⟩
abbrev BI := Fin 1000001
def bbAt (L j : Nat) : BI := ⟨(L - 1 - j) % 1000001, Nat.mod_lt _ (by omega)⟩
def bbL (L k : Nat) : List BI := (List.range k).map (bbAt L)
theorem bbL_succ (L k : Nat) : bbL L (k + 1) = bbL L k ++ [bbAt L k] := by simp [bbL, List.range_succ]
theorem bbL_length (L k : Nat) : (bbL L k).length = k := by simp [bbL]

set_option maxRecDepth 100000 in
set_option maxHeartbeats 2000000 in
theorem bback1_in (F : Fence) (n : Nat) (h8 : F.fn 155) (hro : F.round = none) (hn : 1 ≤ n) (l Bs n₀ B b off cap : Nat) (zs : List BRow) (hreach : zs.length ≤ 1000000) (hz : 0 < zs.length) (hb : b < n₀) (hbB : b ≠ B) (hBs : Bs < n₀) (hBB : Bs ≠ B) (J Jx : List BI → World → Prop)
    (hY : ∀ pre x W, J pre W → pre.length < zs.length → YieldAt F (n - 1) Try.prog l #[.int .i64 (x.val : Int), rowBd (zs.getD x.val bR0)] W fun e W' =>
      (e = .returned (.bool true) ∧ J (pre ++ [x]) W' ∧ KpB n₀ B W W') ∨ (e = .returned (.bool false) ∧ Jx (pre ++ [x]) W'))
    (W : World) (hBs : W.cell? ⟨Bs, 0, none⟩ = some (.slice (some ⟨b, off, none⟩) zs.length cap)) (hc : ∀ j, j < zs.length → RowAt W b (off + j * 8) (zs.getD j bR0)) (h0 : J [] W) :
    CallsIn F n Try.prog 155 #[.func (.yield l) #[] #[], .pointer (some ⟨Bs, 0, none⟩)] W fun e W' => (∃ v, e = .returned v) ∧
      ((∃ ys, ys = bbL zs.length zs.length ∧ J ys W') ∨ (∃ pre, (∃ k, k ≤ zs.length ∧ pre = bbL zs.length k) ∧ Jx pre W')) := by
  refine callsIn_of_wp Try.func155 rfl h8 ?_ hro
  simp only [Try.ntmps155, List.size_toArray, List.length_cons, List.length_nil, Nat.reduceAdd, Nat.reduceSub, Array.replicate_succ, Array.replicate_zero, List.push_toArray, List.append_toArray, List.nil_append, List.cons_append]
  obtain ⟨L, hL⟩ : ∃ L, zs.length = L := ⟨_, rfl⟩
  rw [hL] at hY hBs hc hreach hz ⊢
  gi_wp2
  gi_loopw [3] (fun i wr => ∃ k : Nat, k ≤ L ∧ i = .int .i64 ((L : Int) - 1 - (k : Int)) ∧ J (bbL L k) wr ∧ KpB n₀ B W wr)
    (fun i _ => (intOf i + 1).toNat)
  case atStart => exact ⟨0, Nat.zero_le _, by simp, h0, fun _ _ _ => rfl⟩
  case round =>
    obtain ⟨k, hk, rfl, hJs, hnx⟩ := hrel
    have hcs : wr.cell? ⟨Bs, 0, none⟩ = some (.slice (some ⟨b, off, none⟩) L cap) := (World.cell?_of_block (hnx Bs ‹_› hBB)).trans hBs
    by_cases hlt : k < L
    · obtain ⟨z, hz1⟩ : ∃ z : Nat, z = L - 1 - k := ⟨_, rfl⟩
      have hzi : (L : Int) - 1 - (k : Int) = (z : Int) := by omega
      obtain ⟨x, hbx⟩ : ∃ x, bbAt L k = x := ⟨_, rfl⟩
      have hxz : x.val = z := by rw [← hbx]; show (L - 1 - k) % 1000001 = z; rw [← hz1]; exact Nat.mod_eq_of_lt (by omega)
      have hrw : RowAt wr b (off + z * 8) (zs.getD z bR0) := (hc z (by omega)).agree (hnx b hb hbB)
      obtain ⟨fn, tmps, assign, body, hy, hR⟩ := hY (bbL L k) x wr hJs (by rw [bbL_length]; exact hlt)
      rw [hxz] at hy
      obtain ⟨r, hr⟩ : ∃ r, zs.getD z bR0 = r := ⟨_, rfl⟩
      rw [hr] at hrw hy
      obtain ⟨c0, c1, c2, c3, c4, c5, c6, c7⟩ := hrw
      obtain ⟨X, hX⟩ : ∃ X, strB r.s = X := ⟨_, rfl⟩
      unfold rowBd at hy
      rw [hX] at c0 hy
      have hz2 : (z : Int) < (L : Int) := by omega
      have hz3 : (0 : Int) ≤ (z : Int) := by omega
      have hz4 : decide ((0 : Int) ≤ (z : Int)) = true := decide_eq_true hz3
      rw [hzi]
      have HZ1 := Lib.hid hz1
      have HZI := Lib.hid hzi
      have HBX := Lib.hid hbx
      clear hz1 hzi hY hr hX hbx hxz
      have T1 : ∀ W, Sem.run Try.prog (Instr.indexAt 26 (.slice (some ⟨b, off, none⟩) L cap) (.int .i64 (z : Int))) W = .ok (.pointer (some ⟨b, off + z * 8, none⟩)) W := fun W => by go_simp
      gi_wp2
      refine hR.mono ?_
      rintro e W3 (⟨rfl, hJ3, hk3⟩ | ⟨rfl, hJx3⟩)
      · gi_wp2
        go_roundw
        case rel => exact ⟨k + 1, by omega, by have := HZI.out; go_num, by rw [bbL_succ, HBX.out]; exact hJ3, fun j h1 h2 => (hk3 j h1 h2).trans (hnx j h1 h2)⟩
        case measure => first | (simp [intOf]; done) | (simp [intOf]; omega)
      · gi_wp2
        refine bodyPost_ret (results_none rfl _ _ _) rfl ?_
        refine ⟨⟨_, rfl⟩, .inr ⟨_, ⟨k + 1, by omega, ?_⟩, hJx3⟩⟩
        rw [bbL_succ, HBX.out]
    · obtain rfl : k = L := by omega
      rw [show (k : Int) - 1 - (k : Int) = -1 by omega]
      gi_wp2
      go_end0
      exact ⟨⟨_, rfl⟩, .inl ⟨_, rfl, hJs⟩⟩

set_option maxRecDepth 100000 in
set_option maxHeartbeats 1000000 in
theorem bback1_nil (F : Fence) (n : Nat) (h8 : F.fn 155) (hro : F.round = none) (l Bs : Nat) (a : Option Addr) (cap : Nat) (J : List BI → World → Prop) (W : World) (hBs : W.cell? ⟨Bs, 0, none⟩ = some (.slice a 0 cap)) (h0 : J [] W) :
    CallsIn F n Try.prog 155 #[.func (.yield l) #[] #[], .pointer (some ⟨Bs, 0, none⟩)] W fun e W' => (∃ v, e = .returned v) ∧ J [] W' := by
  refine callsIn_of_wp Try.func155 rfl h8 ?_ hro
  simp only [Try.ntmps155, List.size_toArray, List.length_cons, List.length_nil, Nat.reduceAdd, Nat.reduceSub, Array.replicate_succ, Array.replicate_zero, List.push_toArray, List.append_toArray, List.nil_append, List.cons_append]
  gi_wp2
  gi_loopw [3] (fun i wr => i = .int .i64 (-1) ∧ J [] wr) (fun _ _ => 0)
  case atStart => exact ⟨rfl, h0⟩
  case round =>
    obtain ⟨rfl, hJs⟩ := hrel
    gi_wp2
    go_end0
    exact ⟨⟨_, rfl⟩, hJs⟩

set_option maxHeartbeats 1000000 in
theorem bback_in (F : Fence) (n : Nat) (h7 : F.fn 124) (hro : F.round = none) (a : Option Addr) (len cap : Nat) (w : World) :
    CallsIn F n Try.prog 124 #[.slice a len cap] w fun e w' => e = .returned (.func (.func 155) #[] #[.pointer (some ⟨w.heap.size, 0, none⟩)]) ∧ w' = w.alloc (.cells #[.slice a len cap] 26) := by
  refine callsIn_of_wp Try.func124 rfl h7 ?_ hro
  simp only [Try.ntmps124, List.size_toArray, List.length_cons, List.length_nil, Nat.reduceAdd, Nat.reduceSub, Array.replicate_succ, Array.replicate_zero, List.push_toArray, List.append_toArray, List.nil_append, List.cons_append]
  gi_wp2
  go_ret
  exact ⟨rfl, rfl⟩

theorem bback_stops (F : Fence) (n : Nat) (h8 : F.fn 155) (hro : F.round = none) (hn : 1 ≤ n) (Bs B : Nat) (a : Option Addr) (cap : Nat) (zs : List BRow) (hreach : zs.length ≤ 1000000) (w : World) (hBs : Bs < w.heap.size) (hBB : Bs ≠ B)
    (hc : w.cell? ⟨Bs, 0, none⟩ = some (.slice a zs.length cap)) (hI : zs.length = 0 ∨ ∃ b off, a = some ⟨b, off, none⟩ ∧ b ≠ B ∧ b < w.heap.size ∧ ∀ j, j < zs.length → RowAt w b (off + j * 8) (zs.getD j bR0)) :
    SeqStopsK F n Try.prog 155 #[.pointer (some ⟨Bs, 0, none⟩)] (fun x : BI => #[Value.int .i64 (x.val : Int), rowBd (zs.getD x.val bR0)]) (KpB w.heap.size B) (fun ys => ys = bbL zs.length zs.length)
      (fun pre => ∃ k, k ≤ zs.length ∧ pre = bbL zs.length k) zs.length w := fun l J Jx W hW _ _ hY h0 => by
  have hc' := (hW.cell (p := ⟨Bs, 0, none⟩) hBs).trans hc
  obtain h2 | ⟨b, off, rfl, h3, h4, h5⟩ := hI
  · rw [h2] at hc' ⊢
    exact (bback1_nil F n h8 hro l Bs a cap J W hc' h0).mono fun e W' ⟨he, hj⟩ => ⟨he, .inl ⟨_, rfl, hj⟩⟩
  · by_cases hz : 0 < zs.length
    · exact bback1_in F n h8 hro hn l Bs w.heap.size B b off cap zs hreach hz h4 h3 hBs hBB J Jx hY W hc' (fun j hj => (h5 j hj).agree (hW.block b h4)) h0
    · have h2 : zs.length = 0 := by omega
      rw [h2] at hc' ⊢
      exact (bback1_nil F n h8 hro l Bs _ cap J W hc' h0).mono fun e W' ⟨he, hj⟩ => ⟨he, .inl ⟨_, rfl, hj⟩⟩

end Go.Proofs.Ytgkeblpjmfdhkaa

namespace Go.Proofs.Ytgkeblpjmfdhkaa
open Go.RowKit Go.Shelf Go.Maps
attribute [local go_sem] Oper.semAt_some
set_option linter.unusedVariables false
set_option linter.unusedSimpArgs false

def posF (zs : List BRow) (pre : List BI) : By → Option Nat := pre.foldl (fun G x => fun t => if t = (zs.getD x.val bR0).s then some x.val else G t) (fun _ => none)
theorem posF_snoc (zs : List BRow) (pre : List BI) (x : BI) : posF zs (pre ++ [x]) = fun t => if t = (zs.getD x.val bR0).s then some x.val else posF zs pre t := by simp [posF]
/-- Where a name stands first. -/
def firstF (nms : List By) (s : By) : Option Nat := nms.findIdx? (· == s)
theorem posF_back (zs : List BRow) (hl : zs.length ≤ 1000000) (s : By) : ∀ k, k ≤ zs.length → posF zs (bbL zs.length k) s = (((zs.drop (zs.length - k)).map BRow.s).findIdx? (· == s)).map (· + (zs.length - k))
  | 0, _ => by simp [posF, bbL]
  | k + 1, h => by
    rw [bbL_succ, posF_snoc]
    dsimp only
    have hv : (bbAt zs.length k).val = zs.length - 1 - k := by show (zs.length - 1 - k) % 1000001 = _; exact Nat.mod_eq_of_lt (by omega)
    rw [hv, posF_back zs hl s k (by omega)]
    obtain ⟨j, hj⟩ : ∃ j, zs.length - (k + 1) = j := ⟨_, rfl⟩
    have hj1 : zs.length - 1 - k = j := by omega
    have hj2 : zs.length - k = j + 1 := by omega
    have hjl : j < zs.length := by omega
    rw [hj, hj1, hj2]
    rw [List.drop_eq_getElem_cons hjl, List.map_cons, List.findIdx?_cons]
    have hg : zs.getD j bR0 = zs[j] := by simp [List.getD, List.getElem?_eq_getElem hjl]
    rw [hg]
    by_cases e : s = zs[j].s
    · rw [if_pos e]; subst e; simp
    · rw [if_neg e]
      have : (zs[j].s == s) = false := beq_false_of_ne (fun q => e q.symm)
      rw [this]
      simp only [Bool.false_eq_true, if_false, Option.map_map]
      congr 1
      funext x; simp; omega
theorem posF_first (zs : List BRow) (hl : zs.length ≤ 1000000) (s : By) : posF zs (bbL zs.length zs.length) s = firstF (zs.map BRow.s) s := by
  rw [posF_back zs hl s zs.length (Nat.le_refl _)]
  rw [Nat.sub_self, List.drop_zero]
  unfold firstF
  cases List.findIdx? (fun x => x == s) (zs.map BRow.s) <;> rfl

theorem PM.grownBy {w w' : World} {b n : Nat} {G : By → Option Nat} {row : Option Nat} (h : PM w b n G) (hg : w.grownBy w' row) (hr : row ≠ some b) : PM w' b n G := h.agree (hg.block b h.lt (fun e => hr e.symm))
/-- Between two rounds: the variable's box, the map. -/
def DI (n0 : Nat) (w : World) (zs : List BRow) (pre : List BI) (W : World) : Prop :=
  (Box W (n0 + 1) 135 [.map (some n0)] ∧ PM W n0 pre.length (posF zs pre)) ∧ Below n0 w W ∧ n0 + 3 ≤ W.heap.size
theorem DI.own {n0 : Nat} {w : World} {zs : List BRow} {B : Nat} (h0 : w.heap.size = n0) (hB : n0 + 3 ≤ B) : OwnFrom B (DI n0 w zs) := by
  refine OwnFrom.and (fun s W W' row hs hg hr => ⟨hs.1.own hg (fun r e => (hr r e).2), hs.2.grownBy hg (fun e => by have := (hr n0 e).1; omega)⟩) (OwnFrom.and (ownFrom_below (Nat.le_of_eq h0.symm) (by omega)) (fun _ _ _ _ hs hg _ => Nat.le_trans hs hg.size))
set_option maxRecDepth 100000 in
set_option maxHeartbeats 4000000 in
theorem declared_in (F : Fence) (n : Nat) (h4 : F.fn 75) (h7 : F.fn 124) (h8 : F.fn 155) (hro : F.round = none) (hn : 3 ≤ n) (w : World) (zs : List BRow) (a : Option Addr) (cap : Nat)
    (hl : zs.length ≤ 1000000) (hs : ∀ j, (zs.getD j bR0).s.length ≤ 1000000) (hI : zs.length = 0 ∨ ∃ b off, a = some ⟨b, off, none⟩ ∧ b < w.heap.size ∧ ∀ j, j < zs.length → RowAt w b (off + j * 8) (zs.getD j bR0)) :
    CallsIn F n Try.prog 75 #[.slice a zs.length cap] w fun e w' => ∃ b, e = .returned (.map (some b)) ∧ w.heap.size ≤ b ∧ PM w' b zs.length (firstF (zs.map BRow.s)) ∧ Below w.heap.size w w' := by
  have hmm := @run_makeMap Try.prog
  have h1 : 1 ≤ n := by omega
  refine callsIn_of_wp_marks Try.func75 rfl h4 ?_ hro
  simp only [Try.ntmps75, List.size_toArray, List.length_cons, List.length_nil, Nat.reduceAdd, Nat.reduceSub, Array.replicate_succ, Array.replicate_zero, List.push_toArray, List.append_toArray, List.nil_append, List.cons_append]
  gi_wp2_with (gi_at_call 124; refine (bback_in F (n - 1) h7 hro _ _ _ _).mono ?_; rintro e w' ⟨rfl, rfl⟩)
  obtain ⟨n0, hn0⟩ : ∃ n0, w.heap.size = n0 := ⟨_, rfl⟩
  obtain ⟨w3, hw3⟩ : ∃ w3, (((w.alloc (.map #[] 0)).alloc (.cells #[.map (some w.heap.size)] 135)).alloc (.cells #[.slice a zs.length cap] 26)) = w3 := ⟨_, rfl⟩
  have hB3 : Below w.heap.size w w3 := by subst hw3; exact (((Below.refl _ w).alloc (Nat.le_refl _) _).alloc (by simp) _).alloc (by simp; omega) _
  have hz3 : w3.heap.size = n0 + 3 := by subst hw3; simp; omega
  have hbx : Box w3 (n0 + 1) 135 [.map (some n0)] := by
    subst hw3
    have := (Box.new (w.alloc (.map #[] 0)) 135 [.map (some w.heap.size)]).alloc (.cells #[.slice a zs.length cap] 26)
    rw [World.size_alloc, hn0] at this; rw [hn0]; exact this
  have hpm : PM w3 n0 0 (posF zs []) := by
    subst hw3
    have := PM.made w
    rw [hn0] at this
    exact this.below (((Below.refl _ _).alloc (Nat.le_refl _) _).alloc (by simp) _)
  have hcs : w3.cell? ⟨n0 + 1 + 1, 0, none⟩ = some (.slice a zs.length cap) := by
    subst hw3
    have h := (Box.new ((w.alloc (.map #[] 0)).alloc (.cells #[.map (some w.heap.size)] 135)) 26 [.slice a zs.length cap]).cell 0
    rw [World.size_alloc, World.size_alloc] at h
    rw [← hn0]
    exact h
  have hI3 : zs.length = 0 ∨ ∃ b off, a = some ⟨b, off, none⟩ ∧ b ≠ n0 ∧ b < w3.heap.size ∧ ∀ j, j < zs.length → RowAt w3 b (off + j * 8) (zs.getD j bR0) := by
    rcases hI with h | ⟨b, off, h1, h2, h3⟩
    · exact .inl h
    · exact .inr ⟨b, off, h1, by omega, by omega, fun j hj => (h3 j hj).agree (hB3.block b h2)⟩
  rw [hw3]
  rw [hn0] at hB3 ⊢
  clear hw3
  refine wpIn_rangeFunc_ownH hro h1 (gf := 155) (lb := #[.pointer (some ⟨n0 + 1 + 1, 0, none⟩)]) rfl h8 (enters_of Try.func155 (by kernel_rfl) rfl)
    (bback_stops F (n - 1) h8 hro (by omega) (n0 + 1 + 1) n0 a cap zs hl w3 (by omega) (by omega) hcs hI3)
    (fun h k j h1 h2 => (k j h1 h2).trans (h j h1 h2)) (fun W l o o' hl ho _ _ j h1 h2 => World.putObj_heap_other (by omega)) (Below.refl _ _) (fun _ => rfl)
    (DI n0 w zs) (fun _ _ _ => False) (DI.own hn0 (by omega)) (fun _ _ _ _ _ hs _ _ => hs)
    ⟨⟨hbx, hpm⟩, hB3, by omega⟩
    (fun x a' W => ∃ g, n0 + 3 ≤ g ∧ Box W g 45 [.string (strB (zs.getD x.val bR0).s), (zs.getD x.val bR0).c1, (zs.getD x.val bR0).c2, (zs.getD x.val bR0).c3, (zs.getD x.val bR0).c4, (zs.getD x.val bR0).c5, (zs.getD x.val bR0).c6, (zs.getD x.val bR0).c7] ∧ a' = { tmps := #[.slice a zs.length cap, undef, .map none, .pointer (some ⟨n0 + 1, 0, none⟩), .int .i64 (x.val : Int), .pointer (some ⟨g, 0, none⟩), .map (some n0), .slice a zs.length cap, .func (.func 155) #[] #[.pointer (some ⟨n0 + 1 + 1, 0, none⟩)], .int .i64 (x.val : Int), .agg #[.string (strB (zs.getD x.val bR0).s), (zs.getD x.val bR0).c1, (zs.getD x.val bR0).c2, (zs.getD x.val bR0).c3, (zs.getD x.val bR0).c4, (zs.getD x.val bR0).c5, (zs.getD x.val bR0).c6, (zs.getD x.val bR0).c7], undef, undef, undef, undef, undef, undef], defers := [] })
    (fun x a' => fun s W W' row hs hg hr => by obtain ⟨g, h1, h2, h3⟩ := hs; exact ⟨g, h1, h2.own hg (fun r e => (hr r e).2), h3⟩) ?assign ?body ?done ?stop
  case assign =>
    intro l pre x W K hIp hK
    have hIa : DI n0 w zs pre (W.alloc (.cells #[.string (strB (zs.getD x.val bR0).s), (zs.getD x.val bR0).c1, (zs.getD x.val bR0).c2, (zs.getD x.val bR0).c3, (zs.getD x.val bR0).c4, (zs.getD x.val bR0).c5, (zs.getD x.val bR0).c6, (zs.getD x.val bR0).c7] 45)) := OwnFrom.alloc (DI.own hn0 (Nat.le_refl _)) _ hIp
    have hgs := hIp.2.2
    obtain ⟨r, hr⟩ : ∃ r, zs.getD x.val bR0 = r := ⟨_, rfl⟩
    rw [hr] at hIa hK ⊢
    unfold rowBd
    dsimp only [BRow.c1, BRow.c2, BRow.c3, BRow.c4, BRow.c5, BRow.c6, BRow.c7] at hIa hK ⊢
    clear hr
    gi_wp2
    refine hK _ _ ((KeepsOthers.alloc _ _).from _) (fun k h1 h2 => Below.heap_alloc W _ k (by omega)) hIa ⟨W.heap.size, hgs, Box.new W 45 [_, _, _, _, _, _, _, _], rfl⟩
  case body =>
    rintro l pre x a' W hwl _ ⟨⟨hbox, hmap⟩, hB, hW4⟩ ⟨g, hg, hgb, rfl⟩ hpl
    obtain ⟨w9, hrun9, hm9, hg9, hz9⟩ := hmap.store (by omega) (zs.getD x.val bR0).s (hs x.val) x.val (by have := x.isLt; omega)
    have hx1 := hbox.one
    have hx2 := hgb.cell 0
    have hlb := hbox.lt
    have hlg := hgb.lt
    obtain ⟨X, hX⟩ : ∃ X, strB (zs.getD x.val bR0).s = X := ⟨_, rfl⟩
    have hkv : rkV (atK (zs.getD x.val bR0).s) = .agg #[.int .i64 3, .string X] := by rw [← hX]; rfl
    rw [hkv] at hrun9
    rw [hX] at hx2
    have hx3 : W.cell? ⟨g, 0, none⟩ = some (.string X) := hx2
    have HBX := Lib.hid hbox
    have HM9 := Lib.hid hm9
    have HG9 := Lib.hid hg9
    have HB := Lib.hid hB
    have HXE := Lib.hid hX
    clear hbox hmap hm9 hg9 hB hgb hx2 hX hkv
    obtain ⟨_, _⟩ := hx1
    gi_wp2
    refine ⟨⟨HG9.out.size, fun k o hk h0 ho => (HG9.out.block k (Array.getElem?_eq_some_iff.1 h0).1 (fun e => by have := Option.some.inj e; omega)).trans h0⟩, fun k h1 h2 => HG9.out.block k (by omega) (fun e => h2 (Option.some.inj e)), ⟨Box.grown HBX.out HG9.out (fun e => by have := Option.some.inj e; omega), ?_⟩, HB.out.grown HG9.out (by omega) (fun q e => by have := Option.some.inj e; omega), by omega⟩
    have := HM9.out
    rw [posF_snoc, List.length_append]
    exact this
  case done =>
    rintro D ys W hD rfl ⟨⟨hbox, hmap⟩, hB, hW4⟩ hK
    obtain ⟨_, _⟩ := hbox.one
    have hlb := hbox.lt
    rw [bbL_length] at hmap
    rw [show posF zs (bbL zs.length zs.length) = firstF (zs.map BRow.s) from funext fun s => posF_first zs hl s] at hmap
    have HM := Lib.hid hmap
    have HB := Lib.hid hB
    clear hmap hB hbx hpm
    gi_wp2
    refine ⟨by simp, .inl ⟨_, _, rfl, run_takeDeferred hK, ?_⟩⟩
    refine ⟨.map (some n0), ?_, n0, rfl, Nat.le_of_eq hn0, HM.out.grownBy (grownBy_putObj' _ D (.deferred none)) (fun e => by have := Option.some.inj e; omega), ?_⟩
    · simp [results, Try.f75, go_sem]
    · rw [hn0]; exact HB.out.trans (belowK_b (w := w) (Nat.le_of_eq hn0.symm) _ D _ _ (by omega) hK rfl rfl)
  case stop =>
    rintro D c pre W _ _ h _
    exact h.elim

end Go.Proofs.Ytgkeblpjmfdhkaa
