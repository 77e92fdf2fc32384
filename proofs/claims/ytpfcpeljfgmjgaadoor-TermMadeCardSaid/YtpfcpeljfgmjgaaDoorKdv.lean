/- The document's place, vars, Vars (reference 15). -/
import Derived.Test.YtpfcpeljfgmjgaaDoorKfv
import Derived.Deep.RegionHeldLaw
import Derived.Deep.RegionLaw
namespace Go.Proofs.YtpfcpeljfgmjgaaDoor
open Go.RowKit Go.Maps
set_option linter.unusedVariables false
set_option linter.unusedSimpArgs false

theorem idxV_first : ∀ {l : List Int} {i : Nat} {n : Int}, l[i]? = some n → n ∉ l.take i → idxV l n = i
  | [], i, n, h, _ => by simp at h
  | x :: r, 0, n, h, _ => by simp at h; subst h; simp [idxV]
  | x :: r, i + 1, n, h, hn => by
    simp only [List.getElem?_cons_succ] at h
    simp only [List.take_succ_cons, List.mem_cons, not_or] at hn
    have ih := idxV_first h hn.2
    unfold idxV
    rw [if_neg (fun e => hn.1 e.symm), ih, if_neg (by omega)]; omega
set_option maxHeartbeats 1000000 in
theorem r_place (a : Option Addr) (m c : Nat) (l : List Int) (n : Int) (w : World) {lo hi : Nat} (h : Row lo hi w a m l) (hm : m ≤ 100000000000) :
    Calls Tryd.prog 88 #[.slice a m c, .int .i64 n] w fun e w' => e = .returned (.int .i64 (idxV l n)) ∧ w' = w := by
  obtain ⟨h1, h2⟩ := h
  have HL := Lib.hid h1
  rcases h2 with h0 | ⟨b, off, rfl, _, _, hc⟩
  · obtain rfl : l = [] := List.eq_nil_of_length_eq_zero (by omega)
    obtain rfl : m = 0 := h0
    clear h1 HL
    go_enter Tryd.func88, Tryd.ntmps88
    go_wp2_with fail
    go_rounds 1
    go_ret
    exact ⟨rfl, rfl⟩
  · have HC : Hid (∀ i, i < m → w.cell? ⟨b, off + i, none⟩ = some (.int .i64 (l.getD i 0))) := hc
    clear hc h1
    go_enter Tryd.func88, Tryd.ntmps88
    go_wp2_with fail
    go_loop [5] (fun iv => ∃ i : Nat, i ≤ m ∧ iv = .int .i64 (i : Int) ∧ Hid (n ∉ l.take i)) (fun iv => m - (intOf iv).toNat)
    case atStart => exact ⟨0, Nat.zero_le _, rfl, by simp [Hid]⟩
    case round =>
      obtain ⟨i, hi, rfl, HN⟩ := hrel
      by_cases hlt : i < m
      · obtain ⟨x, hx⟩ : ∃ x, l[i]? = some x := ⟨_, List.getElem?_eq_getElem (by rw [HL.out]; exact hlt)⟩
        have q0 := HC.out i hlt
        rw [show l.getD i 0 = x by simp [List.getD, hx]] at q0
        have HTK := Lib.hid (take_snoc' hx)
        have HX := Lib.hid hx
        clear hx
        by_cases he : x = n
        · subst he
          have HI : Hid (idxV l x = i) := idxV_first HX.out HN.out
          go_wp2_with fail
          go_ret
          exact ⟨by rw [HI.out]; rfl, rfl⟩
        · have e1 : (x == n) = false := by simpa using he
          have HN2 : Hid (n ∉ l.take (i + 1)) := by
            show ¬ _
            rw [HTK.out, List.mem_append]
            rintro (h | h)
            · exact HN.out h
            · simp at h; exact he h.symm
          clear he
          go_wp2_with fail
          go_round
          case rel => exact ⟨i + 1, by omega, by go_num, HN2⟩
          case measure => simp [intOf]; omega
      · have him : i = m := by omega
        subst him
        have HI : Hid (idxV l n = -1) := by
          have h := HN.out
          rw [List.take_of_length_le (by rw [HL.out]; exact Nat.le_refl _)] at h
          exact idxV_not h
        go_wp2_with fail
        go_ret
        exact ⟨by rw [HI.out]; rfl, rfl⟩
theorem idxV_neg {l : List Int} {n : Int} : idxV l n < 0 ↔ n ∉ l := by
  constructor
  · intro h hm
    obtain ⟨i, hi⟩ := List.mem_iff_getElem?.1 hm
    have : ∀ (l : List Int) (i : Nat), l[i]? = some n → 0 ≤ idxV l n := by
      intro l
      induction l with
      | nil => intro i hi; simp at hi
      | cons x r ih =>
        intro i hi
        unfold idxV
        split
        · omega
        · rename_i hx
          cases i with
          | zero => simp at hi; exact absurd hi hx
          | succ i =>
            have := ih i (by simpa using hi)
            rw [if_neg (by omega)]; omega
    have := this l i hi
    omega
  · intro h; rw [idxV_not h]; omega

/-- One int in a block of its own, read behind a growth elsewhere. -/
theorem one_newI {w : World} {b : Nat} {x : Int} (h : Box w b 3 [.int .i64 x]) : ∀ ad, some (⟨b, 0, none⟩ : Addr) = some ad → ∀ (j : Nat) (u : Value), [Value.int .i64 x][j]? = some u → w.cell? (ad.add j) = some u := by
  rintro ad e j u hu
  cases e
  match j, hu with
  | 0, hu => simp at hu; subst hu; exact h.cell 0
theorem nzI1 {w w9 : World} {x : Int} {o : Obj} (hgr : ((w.alloc o).alloc (.cells #[.int .i64 x] 3)).drew.grownBy w9 (some w.heap.size)) : ∀ ad, some (⟨w.heap.size + 1, 0, none⟩ : Addr) = some ad → ∀ (j : Nat) (u : Value), [Value.int .i64 x][j]? = some u → w9.cell? (ad.add j) = some u := by
  have h := Box.grown ((Box.new (w.alloc o) 3 [.int .i64 x]).drew) hgr (by rw [World.size_alloc]; intro e; have := Option.some.inj e; omega)
  rw [World.size_alloc] at h
  exact one_newI h
theorem nzI2 {w w9 : World} {x : Int} {o : Obj} (hgr : ((w.alloc (.cells #[.int .i64 x] 3)).alloc o).drew.grownBy w9 (some (w.heap.size + 1))) : ∀ ad, some (⟨w.heap.size, 0, none⟩ : Addr) = some ad → ∀ (j : Nat) (u : Value), [Value.int .i64 x][j]? = some u → w9.cell? (ad.add j) = some u := 
  one_newI (Box.grown (((Box.new w 3 [.int .i64 x]).alloc o).drew) hgr (by intro e; have := Option.some.inj e; omega))
theorem nzI3 {w9 : World} {x : Int} : ∀ ad, some (⟨w9.heap.size, 0, none⟩ : Addr) = some ad → ∀ (j : Nat) (u : Value), [Value.int .i64 x][j]? = some u → (w9.alloc (.cells #[.int .i64 x] 3)).cell? (ad.add j) = some u := one_newI (Box.new w9 3 [.int .i64 x])
theorem rowI_news {lo hi : Nat} {w : World} {a : Option Addr} {m : Nat} {l : List Int} (h : Row lo hi w a m l) : ∀ ad, a = some ad → ∀ (j : Nat) (u : Value), (l.map (Value.int .i64))[j]? = some u → w.cell? (ad.add j) = some u := by
  rintro ad rfl; exact RowF.news h
/-- A row anywhere, in a world that has grown. -/
theorem row_any {w w' : World} {a : Option Addr} {m : Nat} {l : List Int} (h : Row 0 w.heap.size w a m l) (hb : Below w.heap.size w w') : Row 0 w'.heap.size w' a m l := (RowF.below h hb (Nat.le_refl _)).mono (Nat.le_refl _) hb.size
theorem row_own {w : World} {B n : Nat} {v : Value} {l : List Int} (h : w.ownsRow B 3 1 v n (l.map (Value.int .i64))) (hn : l.length = n) : ∃ a c, v = .slice a n c ∧ Row 0 w.heap.size w a n l := by
  subst hn
  obtain ⟨a, c, rfl, hr⟩ := RowF.of_owns (f := Value.int .i64) (d := (0 : Int)) h
  exact ⟨a, c, rfl, hr.mono (Nat.zero_le _) (Nat.le_refl _)⟩

theorem run_append_noneC {P : Program} {w : World} (base : Nat) (t ty e : TypeId) (i : TypeInfo) (size c : Nat) (ht : P.underlying t = some (.slice e)) (hi : P.info? e = some i)
    (v : Value) (n : Nat) (xs : List Value) (hown : w.ownsRow base e size v n xs) : (Builtin.append_ #[t, t] ty #[v, .slice none 0 c]).run P w = .ok v w := by
  rcases hown.2 with ⟨rfl, rfl⟩ | ⟨g, cap, cur, rfl, _, _, hnc, _⟩
  · simp [Builtin.append_, run_underlying ht, sizeOf, typeInfo, hi, Builtin.lenOf, Builtin.firstCells]
  · simp [Builtin.append_, run_underlying ht, sizeOf, typeInfo, hi, Builtin.lenOf, Builtin.firstCells, hnc, storeCells]
/-- 'append' in a drawn region, whatever is appended. -/
theorem step_append_any {P : Program} {ops : Array Oper} {o : Oper} {a : Act} {w : World} {K : Act → World → Prop} {Q : Exit → Act → World → Prop} {E : Prop} (hgd : o.guard = none) (s x : Operand) (t : TypeId)
    (ho : o.op = .call { callee := .builtin .append, args := #[s, x], argTypes := #[t, t] })
    (base : Nat) (e : TypeId) (i : TypeInfo) (z : Value) (size bytes : Nat) (ht : P.underlying t = some (.slice e)) (hi : P.info? e = some i) (hz : i.zero = some z)
    (hsize : i.size = size) (hby : i.bytes = bytes) (hzs : z.cells.size = size) (hsz : 0 < size)
    (v : Value) (n : Nat) (xs : List Value) (hs : a.eval s = v) (hown : w.ownsRow base e size v n xs)
    (ao : Option Addr) (m c : Nat) (news : List Value) (hx : a.eval x = .slice ao m c) (hnil : ao = none → m = 0) (hl : news.length = m * size)
    (hnews : ∀ ad, ao = some ad → ∀ j u, news[j]? = some u → w.cell? (ad.add j) = some u) (h1 : ∀ u ∈ news, u.oneCell' = true)
    (h63 : n + m ≤ maxLen) (hbytes : (n + m) * bytes ≤ 140737488355328) (hbase : base ≤ w.heap.size)
    (h : ∀ v' w', w'.ownsRow base e size v' (n + m) (xs ++ news) → w.grownBy w' v.ownBlock → K (a.put o.dst v') w') : if Region.wanted o (yielded ops a.tmps) = true then Oper.wp P o a w K Q else E := by
  rw [if_pos (by simp [Region.wanted, hgd])]
  cases ao with
  | some ad => exact wp_append_own (w := w) s x t ho base e i z size bytes ht hi hz hsize hby hzs hsz v n xs hs hown ad m c news hx hl (hnews ad rfl) h1 h63 hbytes hbase (fun v' w' h2 h3 _ => h v' w' h2 h3)
  | none =>
    obtain rfl := hnil rfl
    obtain rfl : news = [] := List.eq_nil_of_length_eq_zero (by simpa using hl)
    have hrun := run_append_noneC (P := P) (w := w) base t o.type e i size c ht hi v n xs hown
    unfold Oper.wp
    simp [execOp, ho, resolve, invoke, builtin, hs, hx, hrun, Result.andThen]
    exact h v w (by simpa using hown) (World.grownBy.refl _ _)
def VarB (x : Ty) : Prop := ∀ (out : List Int) (ao : Option Addr) (no co : Nat) (S : Nat → Prop) (u : Value) (w : World), Row 0 w.heap.size w ao no out → IsV S w (tyC x) u → no + x.nn ≤ 10000000000 →
  Calls Tryd.prog 56 #[.slice ao no co, u] w fun e w' => ∃ a' c', e = .returned (.slice a' (x.vs.foldl addV out).length c') ∧ Row 0 w'.heap.size w' a' (x.vs.foldl addV out).length (x.vs.foldl addV out) ∧ Below w.heap.size w w'

set_option maxRecDepth 100000 in
set_option maxHeartbeats 16000000 in
theorem var_step (k n : Int) (s : By) (kids : List Ty) (hX : ∀ x ∈ kids, VarB x) : VarB (.mk k n s kids) := by
  intro out ao no co S u w hout hv hlen
  obtain ⟨i0, hi0, hy0, hy1, hy2⟩ := info_parts Tryd.kintInfo
  obtain ⟨a, c, rfl, hk⟩ := hv.ty
  have hLm := hk.max_len
  obtain ⟨z, hz⟩ : ∃ z, strB s = z := ⟨_, rfl⟩
  obtain ⟨m, hm⟩ : ∃ m, kids.length = m := ⟨_, rfl⟩
  rw [hz, hm]
  rw [tysC_eq] at hk
  have HK := Lib.hid hk
  have HM := Lib.hid hm
  have HX := Lib.hid hX
  rw [hm] at HK hLm
  simp only [Ty.nn] at hlen
  have HLN : Hid (no + (1 + Ty.nns kids) ≤ 10000000000) := hlen
  have HNO : Hid (out.length = no) := hout.1
  have hno9 : no ≤ 10000000000 := by omega
  obtain ⟨R, hR⟩ : ∃ R, (Ty.mk k n s kids).vs.foldl addV out = R := ⟨_, rfl⟩
  obtain ⟨nR, hnR⟩ : ∃ nR, R.length = nR := ⟨_, rfl⟩
  rw [hR, hnR]
  have HNR := Lib.hid hnR
  simp only [Ty.vs] at hR
  obtain ⟨L0, hL0⟩ : ∃ L0, (if k = 1 then [n] else []).foldl addV out = L0 := ⟨_, rfl⟩
  obtain ⟨n0, hn0⟩ : ∃ n0, L0.length = n0 := ⟨_, rfl⟩
  have HN0 := Lib.hid hn0
  have HL0 := Lib.hid hL0
  have HR0 : Hid ((Ty.vss kids).foldl addV L0 = R) := by show _ = _; rw [← hL0, ← List.foldl_append]; exact hR
  have hn1 : n0 ≤ no + 1 := by
    rw [← hn0, ← hL0, ← HNO.out]
    have := foldl_addV_len (if k = 1 then [n] else []) out
    have h2 : (if k = 1 then [n] else [] : List Int).length ≤ 1 := by split <;> simp
    omega
  obtain ⟨W0, hW0⟩ : ∃ W0, w.alloc (.cells #[.int .i64 k, .int .i64 n, .string z, .slice a m c] 47) = W0 := ⟨_, rfl⟩
  have hb0 : Below w.heap.size w W0 := hW0 ▸ (Below.refl _ w).alloc (Nat.le_refl _) _
  have hbx : Box W0 w.heap.size 47 [.int .i64 k, .int .i64 n, .string z, .slice a m c] := hW0 ▸ Box.new w 47 [.int .i64 k, .int .i64 n, .string z, .slice a m c]
  have HOUT := Lib.hid (row_any hout hb0)
  have HNIL : Hid (ao = none → no = 0) := fun e => by subst e; exact hout.nil_len
  have HPL := Lib.hid (r_place ao no co out n W0 HOUT.out (by omega))
  obtain ⟨po, hpo⟩ : ∃ po, idxV out n = po := ⟨_, rfl⟩
  have HGO : Hid (po < 0 ↔ n ∉ out) := by show _ ↔ _; rw [← hpo]; exact idxV_neg
  rw [hpo] at HPL
  obtain ⟨r1, hr1⟩ : ∃ r1, decide (k = 1 ∧ n ∉ out) = r1 := ⟨_, rfl⟩
  have HR1 := Lib.hid hr1
  have HBW := Lib.hid hb0
  have HBX := Lib.hid hbx
  obtain ⟨_, _, _, _⟩ := four_cells hbx
  have hbl := hbx.lt
  clear hout hv hlen hk hX hz hm hR hnR hL0 hn0 hb0 hbx hpo hr1
  go_enter Tryd.func56, Tryd.ntmps56
  go_upto_region 1 with fail
  try rw [hW0]
  try clear hW0
  go_cut [15] (fun v15 wx => v15 = .bool r1 ∧ W0 = wx)
  case first =>
    by_cases hk1 : k = 1
    · have e1 : (k == 1) = true := by simp [hk1]
      by_cases h3 : n ∈ out
      · have e4 : decide (po < 0) = false := decide_eq_false (fun q => HGO.out.1 q h3)
        have e3 : r1 = false := by rw [← HR1.out]; exact decide_eq_false (fun q => q.2 h3)
        subst e3
        clear hk1 h3
        go_wp2_with (go_at_call 88; (with_reducible refine (HPL.out).mono ?_); rintro e wz ⟨rfl, rfl⟩)
        go_meet
        exact ⟨rfl, rfl⟩
      · have e4 : decide (po < 0) = true := decide_eq_true (HGO.out.2 h3)
        have e3 : r1 = true := by rw [← HR1.out]; exact decide_eq_true ⟨hk1, h3⟩
        subst e3
        clear hk1 h3
        go_wp2_with (go_at_call 88; (with_reducible refine (HPL.out).mono ?_); rintro e wz ⟨rfl, rfl⟩)
        go_meet
        exact ⟨rfl, rfl⟩
    · have e1 : (k == 1) = false := beq_false_of_ne hk1
      have e3 : r1 = false := by rw [← HR1.out]; exact decide_eq_false (fun q => hk1 q.1)
      subst e3
      clear hk1
      go_wp2_with fail
      go_meet
      exact ⟨rfl, rfl⟩
  case rest =>
    obtain ⟨rfl, rfl⟩ := hcut
    clear HPL HGO
    have HIN : Hid (∀ w', Below W0.heap.size W0 w' → Row 0 w'.heap.size w' ao no out) := fun w' hw => row_any HOUT.out hw
    have HLS : Hid ((out.map (Value.int .i64)).length = no * 1) := by show _ = _; simp [HNO.out]
    have HQ1 : Hid (0 + no ≤ maxLen) := by show _ ≤ _; unfold maxLen; omega
    have HQ2 : Hid ((0 + no) * 8 ≤ 140737488355328) := by show _ ≤ _; omega
    have HQ3 : Hid (0 + no + 1 ≤ maxLen) := by show _ ≤ _; unfold maxLen; omega
    have HQ4 : Hid ((0 + no + 1) * 8 ≤ 140737488355328) := by show _ ≤ _; omega
    go_upto_if 15 with fail
    go_cut [0] (fun v0 wx => ∃ a0 c0, v0 = .slice a0 n0 c0 ∧ Row 0 wx.heap.size wx a0 n0 L0 ∧ Below W0.heap.size W0 wx)
    case first =>
      cases r1 with
      | false =>
        have hE : L0 = out := by
          have h1 : ¬ (k = 1 ∧ n ∉ out) := of_decide_eq_false HR1.out
          rw [← HL0.out]
          by_cases h2 : k = 1
          · rw [if_pos h2]
            show addV out n = out
            unfold addV
            rw [if_pos (Decidable.not_not.1 fun q => h1 ⟨h2, q⟩)]
          · rw [if_neg h2]; rfl
        have HE := Lib.hid hE
        clear hE
        go_wp2_with fail
        go_meet
        have h5 : no = n0 := by rw [← HN0.out, HE.out, HNO.out]
        exact ⟨ao, co, by rw [h5], by rw [HE.out, ← h5]; exact HOUT.out, Below.refl _ _⟩
      | true =>
        have hE : L0 = out ++ [n] := by
          have h1 : k = 1 ∧ n ∉ out := of_decide_eq_true HR1.out
          rw [← HL0.out, if_pos h1.1]
          show addV out n = _
          unfold addV
          rw [if_neg h1.2]
        have HE := Lib.hid hE
        clear hE
        go_upto_region 2 with fail
        go_region_law (first
            | (refine step_append_any rfl _ _ 22 rfl W0.heap.size 3 i0 (.int .i64 0) 1 8 Tryd.underlying22 hi0 hy0 hy1 hy2 rfl (by decide) _ 0 [] rfl (by first | exact (World.ownsRow_made W0 #[] 0 (Nat.le_refl _) (by decide) rfl).drew | exact ((World.ownsRow_made W0 #[] 0 (Nat.le_refl _) (by decide) rfl).alloc _).drew | exact (show (((W0.alloc (.cells #[.int .i64 n] 3)).alloc (.cells #[] 3)).drew).ownsRow W0.heap.size 3 1 (.slice (some ⟨W0.heap.size + 1, 0, none⟩) 0 0) 0 [] by have h := (World.ownsRow_made (base := W0.heap.size) (e := 3) (size := 1) (W0.alloc (.cells #[.int .i64 n] 3)) #[] 0 (by simp) (by decide) rfl).drew; rw [World.size_alloc] at h; exact h)) ao no co (out.map (Value.int .i64)) rfl (fun e => HNIL.out e) HLS.out (rowI_news (HIN.out _ (by repeat (first | with_reducible exact Below.refl _ _ | with_reducible exact HBa.out | with_reducible exact HBb.out | with_reducible refine Below.drew ?_ | with_reducible refine below_alloc ?_ (Nat.le_refl _) _)))) (by intro u hu; obtain ⟨x, _, rfl⟩ := List.mem_map.1 hu; rfl) HQ1.out HQ2.out (by simp; try omega) ?_; intro v9 w9 hown9 hgr9; have HBa := Lib.hid (show Below W0.heap.size W0 w9 from Below.grown (by repeat (first | with_reducible exact Below.refl _ _ | with_reducible exact HBa.out | with_reducible exact HBb.out | with_reducible refine Below.drew ?_ | with_reducible refine below_alloc ?_ (Nat.le_refl _) _)) hgr9 (by simp; try omega) (by rintro q hq; cases hq; simp)); have bx9 := HBX.out.below HBa.out; obtain ⟨_, _, _, _⟩ := four_cells bx9; have bl9 := bx9.lt)
            | (refine step_append_any rfl _ _ 22 rfl W0.heap.size 3 i0 (.int .i64 0) 1 8 Tryd.underlying22 hi0 hy0 hy1 hy2 rfl (by decide) v9 (0 + no) ([] ++ out.map (Value.int .i64)) rfl (by first | exact hown9 | exact hown9.alloc _) (some _) 1 1 [.int .i64 n] rfl (by intro e; cases e) rfl (by first | exact nzI1 hgr9 | exact nzI2 hgr9 | exact nzI3) (by simp [Value.oneCell']) HQ3.out HQ4.out (by have := HBa.out.size; simp; try omega) ?_; intro v10 w10 hown10 hgr10; have HBb := Lib.hid (show Below W0.heap.size W0 w10 from Below.grown (by repeat (first | with_reducible exact Below.refl _ _ | with_reducible exact HBa.out | with_reducible exact HBb.out | with_reducible refine Below.drew ?_ | with_reducible refine below_alloc ?_ (Nat.le_refl _) _)) hgr10 (by have := HBa.out.size; simp; try omega) (fun q hq => (own_lo17 hown9 q hq).1))))
        all_goals go_wp2_with fail
        all_goals go_meet
        all_goals (
          have hle : n0 = no + 1 := by rw [← HN0.out, HE.out, List.length_append, HNO.out]; rfl
          have h7 : w10.ownsRow W0.heap.size 3 1 v10 n0 (L0.map (Value.int .i64)) := by
            rw [hle, HE.out, List.map_append]
            simpa using hown10
          obtain ⟨a0, c0, hv0, hr0⟩ := row_own h7 HN0.out
          exact ⟨a0, c0, hv0, hr0, HBb.out⟩)
    case rest =>
      rename World => w2
      obtain ⟨a0, c0, rfl, hr0, hb2⟩ := hcut
      have hbx2 := HBX.out.below hb2
      obtain ⟨_, _, _, _⟩ := four_cells hbx2
      have hbl3 := hbx2.lt
      have HROW := Lib.hid hr0
      have HB2 := Lib.hid hb2
      clear hr0 hb2 hbx2 HIN HLS HQ1 HQ2 HQ3 HQ4 HOUT
      go_wp2_with fail
      go_loopw [0, 5] (fun v0 iv wr => ∃ (i lo : Nat) (oi : List Int) (ai : Option Addr) (ci : Nat), i ≤ m ∧ iv = .int .i64 (i : Int) ∧ v0 = .slice ai lo ci ∧ Hid (Row 0 wr.heap.size wr ai lo oi) ∧ Hid (oi = (Ty.vss (kids.take i)).foldl addV L0) ∧ Hid (Below W0.heap.size W0 wr)) (fun _ iv _ => m - (intOf iv).toNat)
      case atStart => exact ⟨0, n0, L0, a0, c0, Nat.zero_le _, rfl, rfl, HROW, by simp [Hid, Ty.vss], HB2⟩
      case round =>
        clear HROW HB2
        obtain ⟨i, lo, oi, ai, ci, hi, rfl, rfl, HROW, HE, HB⟩ := hrel
        rename World => wr
        have hby := HBX.out.below HB.out
        obtain ⟨_, _, _, _⟩ := four_cells hby
        have hyl := hby.lt
        have hGw := HBW.out.trans (HB.out.mono HBW.out.size)
        by_cases hlt : i < m
        · obtain ⟨x, hx⟩ : ∃ x, kids[i]? = some x := ⟨_, List.getElem?_eq_getElem (by rw [HM.out]; exact hlt)⟩
          have hK9 := HK.out
          rw [← HM.out] at hK9
          obtain ⟨g, off, k', n', s', a', m', c', rfl, hgr, hgw, hxv, f1, f2, f3, f4, q0, q1, q2, q3⟩ := kid_cells hK9 hx hGw
          clear f1 f2 f3 f4
          have hxm := List.mem_of_getElem? hx
          obtain ⟨z', hz'⟩ : ∃ z', strB s' = z' := ⟨_, rfl⟩
          rw [hz'] at hxv q2
          have hln : lo + x.nn ≤ 10000000000 := by
            have h0 : oi.length = lo := HROW.out.1
            have h1 := foldl_addV_len (Ty.vss (kids.take i)) L0
            have h2 := vss_take kids i
            have h3 := nns_snoc hx
            have h4 := Ty.nns_take kids (i + 1)
            have h5 := HN0.out
            have h6 := HLN.out
            have h7 := HE.out
            rw [← h7] at h1
            omega
          have HC := Lib.hid (HX.out x hxm oi ai lo ci S _ wr HROW.out hxv hln)
          have HE2 : Hid (x.vs.foldl addV oi = (Ty.vss (kids.take (i + 1))).foldl addV L0) := by show _ = _; rw [vss_snoc hx, List.foldl_append, ← HE.out]
          obtain ⟨O2, hO2⟩ : ∃ O2, x.vs.foldl addV oi = O2 := ⟨_, rfl⟩
          rw [hO2] at HC HE2
          obtain ⟨l2, hl2⟩ : ∃ l2, O2.length = l2 := ⟨_, rfl⟩
          rw [hl2] at HC
          have T1 : ∀ W, Sem.run Tryd.prog (Instr.indexAt 45 (.slice (some ⟨g, off, none⟩) m c) (.int .i64 (i : Int))) W = .ok (.pointer (some ⟨g, off + i * 4, none⟩)) W := fun W => by go_simp
          clear hx hxv hz' hK9 hln hxm hby hGw hO2 hl2
          go_wp2_with (go_at_call 56; (with_reducible refine (HC.out).mono ?_); rintro e w9 ⟨a9, c9, rfl, hr9, hb9⟩; have HR9 := Lib.hid hr9; have HB9 := Lib.hid (HB.out.trans (hb9.mono HB.out.size)); clear hb9 hr9)
          go_roundw
          case rel => exact ⟨i + 1, l2, O2, a9, c9, by omega, by go_num, rfl, HR9, HE2, HB9⟩
          case measure => simp [intOf]; omega
        · have him : i = m := by omega
          subst him
          have HEE : Hid (oi = R) := by
            show _ = _
            have h := HE.out
            rw [List.take_of_length_le (by rw [HM.out]; exact Nat.le_refl _), HR0.out] at h
            exact h
          have HLO : Hid (lo = nR) := by show _ = _; rw [← HNR.out, ← HEE.out]; exact HROW.out.1.symm
          clear hby
          go_wp2_with fail
          go_ret
          have h1 := HROW.out
          rw [HEE.out, HLO.out] at h1
          refine ⟨ai, ci, ?_, h1, hGw⟩
          rw [HLO.out]; rfl
theorem r_vars (x : Ty) : VarB x := Ty.ind (P := VarB) (fun k n s kids ih => var_step k n s kids ih) x
set_option maxRecDepth 100000 in
set_option maxHeartbeats 4000000 in
/-- The document's Vars. -/
theorem r_Vars (x : Ty) (S : Nat → Prop) (u : Value) (w : World) (hv : IsV S w (tyC x) u) (hnn : x.nn ≤ 1000000000) :
    Calls Tryd.prog 28 #[u] w fun e w' => ∃ a c, e = .returned (.slice a (varsL x).length c) ∧ Row 0 w'.heap.size w' a (varsL x).length (varsL x) ∧ Below w.heap.size w w' := by
  have HC : Hid (∀ W', Below w.heap.size w W' → Calls Tryd.prog 56 #[.slice none 0 0, u] W' fun e w' => ∃ a' c', e = .returned (.slice a' (varsL x).length c') ∧ Row 0 w'.heap.size w' a' (varsL x).length (varsL x) ∧ Below W'.heap.size W' w') := fun W' hW' =>
    r_vars x [] none 0 0 S u W' ⟨rfl, .inl rfl⟩ (hv.under hW') (by omega)
  obtain ⟨V, hV⟩ : ∃ V, varsL x = V := ⟨_, rfl⟩
  obtain ⟨nv, hnv⟩ : ∃ nv, V.length = nv := ⟨_, rfl⟩
  rw [hV, hnv] at HC
  rw [hV, hnv]
  obtain ⟨k, n, s, kids⟩ := x
  obtain ⟨a, c, rfl, hk⟩ := hv.ty
  obtain ⟨z, hz⟩ : ∃ z, strB s = z := ⟨_, rfl⟩
  obtain ⟨m, hm9⟩ : ∃ m, kids.length = m := ⟨_, rfl⟩
  rw [hz, hm9] at HC
  rw [hz, hm9]
  clear hv hk hz hm9 hV hnv hnn
  go_enter Tryd.func28, Tryd.ntmps28
  go_wp2_with (go_at_call 56; (with_reducible refine (HC.out _ ((Below.refl _ w).alloc (Nat.le_refl _) _)).mono ?_); rintro e w9 ⟨a9, c9, rfl, hr9, hb9⟩; have HR9 := Lib.hid hr9; have HB9 := Lib.hid (((Below.refl _ w).alloc (Nat.le_refl _) _).trans (hb9.mono (by simp))); clear hb9 hr9)
  go_ret
  exact ⟨a9, c9, rfl, HR9.out, HB9.out⟩

end Go.Proofs.YtpfcpeljfgmjgaaDoor
