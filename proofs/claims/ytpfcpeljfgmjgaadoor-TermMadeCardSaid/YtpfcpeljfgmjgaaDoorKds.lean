/- The document's Subst, renamed, Canon (reference 15). -/
import Derived.Test.YtpfcpeljfgmjgaaDoorKdv
import Derived.Deep.AppendLies
namespace Go.Proofs.YtpfcpeljfgmjgaaDoor
open Go.RowKit Go.Maps
set_option linter.unusedVariables false
set_option linter.unusedSimpArgs false

theorem step_plain17 {P : Program} {ops : Array Oper} {o : Oper} {a : Act} {w : World} {K : Act → World → Prop} {Q : Exit → Act → World → Prop} {E : Prop} (hgd : o.guard = none) (h : Oper.wp P o a w K Q) : if Region.wanted o (yielded ops a.tmps) = true then Oper.wp P o a w K Q else E := by
  rw [if_pos (by simp [Region.wanted, hgd])]; exact h
theorem news_at17 {w : World} {t : TypeId} {cs : List Value} {H : Nat} (hH : w.heap.size = H) : ∀ j u, cs[j]? = some u → (w.alloc (.cells cs.toArray t)).cell? ((⟨H, 0, none⟩ : Addr).add j) = some u := by
  subst hH
  intro j u hu
  have := (Box.new w t cs).cell j
  rw [hu] at this
  rw [Addr.add_lit, Nat.zero_add]; exact this
/-- Old blocks below B, and new ones. -/
def ON (B s : Nat) : Nat → Prop := fun q => q < B ∨ s ≤ q
def SK (B s ob : Nat) (v : Value) : Nat → Prop := fun q => q < B ∨ (ob < q ∧ some q ≠ v.ownBlock)
/-- A type's kids that are being laid: in block ob, with the row v of ts. -/
structure KR (B s ob : Nat) (k n : Int) (z : ByteArray) (w : World) (v : Value) (i : Nat) (ts : List Ty) (us : List Value) : Prop where
  box : Box w ob 47 [.int .i64 k, .int .i64 n, .string z, v]
  own : w.ownsRow (ob + 1) 47 4 v i us
  ins : InS (SK B s ob v) w (ts.flatMap tyC) us
  len : ts.length = i
  bs : B ≤ s
  so : s ≤ ob
section
variable {B s ob : Nat} {k n : Int} {z : ByteArray} {w w' : World} {v : Value} {i : Nat} {ts : List Ty} {us : List Value}
theorem KR.start (w : World) (hB : B ≤ s) (hs : s ≤ w.heap.size) : KR B s w.heap.size k n z (w.alloc (.cells #[.int .i64 k, .int .i64 n, .string z, .slice none 0 0] 47)) (.slice none 0 0) 0 [] [] :=
  ⟨Box.new w 47 [.int .i64 k, .int .i64 n, .string z, .slice none 0 0], World.ownsRow_nil _ _ _ _, InS.nil, rfl, hB, hs⟩
theorem KR.below (h : KR B s ob k n z w v i ts us) (hb : Below w.heap.size w w') : KR B s ob k n z w' v i ts us := ⟨h.box.below hb, own_ag17 h.own (fun q hq => hb.block q (own_lo17 h.own q hq).2), h.ins.under hb, h.len, h.bs, h.so⟩
theorem KR.no (h : KR B s ob k n z w v i ts us) : v.ownBlock ≠ some ob := fun e => by have := (own_lo17 h.own ob e).1; omega
theorem KR.push {w9 : World} {g cap : Nat} {x : Ty} {vs : List Value} {o : Obj} (h : KR B s ob k n z w v i ts us) (hx : InS (SK B s ob v) w (tyC x) vs) (hown : w9.ownsRow (ob + 1) 47 4 (.slice (some ⟨g, 0, none⟩) (i + 1) cap) (i + 1) (us ++ vs)) (hgr : (w.alloc o).grownBy w9 v.ownBlock) (hat : v.ownBlock = some g ∨ g = w.heap.size + 1) :
    KR B s ob k n z (w9.setCell ⟨ob, 3, none⟩ (.slice (some ⟨g, 0, none⟩) (i + 1) cap)) (.slice (some ⟨g, 0, none⟩) (i + 1) cap) (i + 1) (ts ++ [x]) (us ++ vs) := by
  have hol := h.box.lt
  have hbox9 : Box w9 ob 47 [.int .i64 k, .int .i64 n, .string z, v] := (hgr.block ob (by rw [World.size_alloc]; omega) (fun e => h.no e.symm)).trans (h.box.alloc o)
  have hgo : g ≠ ob := by
    rintro rfl
    rcases hat with h1 | h1
    · exact h.no h1
    · omega
  have hz := hgr.size
  rw [World.size_alloc] at hz
  have hag : ∀ {cs : List Cl} {xs : List Value}, InS (SK B s ob v) w cs xs → InS (SK B s ob (.slice (some ⟨g, 0, none⟩) (i + 1) cap)) (w9.setCell ⟨ob, 3, none⟩ (.slice (some ⟨g, 0, none⟩) (i + 1) cap)) cs xs := fun hc => by
    refine hc.agree (fun b hb hlt => ⟨?_, ?_⟩) (by simp; omega)
    · rcases hb with hb | ⟨h2, h3⟩
      · exact .inl hb
      · refine .inr ⟨h2, fun e => ?_⟩
        have e2 : b = g := Option.some.inj e
        rcases hat with h4 | h4
        · exact h3 (by rw [h4, e2])
        · omega
    · have hbo : b ≠ ob := by
        rcases hb with hb | ⟨h2, _⟩
        · have := h.bs; have := h.so; omega
        · omega
      have hbv : some b ≠ v.ownBlock := by
        rcases hb with hb | ⟨_, h3⟩
        · intro e
          have := (own_lo17 h.own b e.symm).1
          have := h.bs; have := h.so; omega
        · exact h3
      exact (Below.heap_setCell _ ⟨ob, 3, none⟩ _ b hbo).trans ((hgr.block b (by rw [World.size_alloc]; omega) hbv).trans (Below.heap_alloc _ _ _ hlt))
  refine ⟨hbox9.set 3 _, own_ag17 hown (fun q hq => Below.heap_setCell _ ⟨ob, 3, none⟩ _ q (by have : q = g := by have q' : some g = some q := hq; cases q'; rfl
                                                                                               rw [this]; exact hgo)), ?_, by simp [h.len], h.bs, h.so⟩
  rw [List.flatMap_append]
  exact (hag h.ins).app (by simpa using hag hx)
theorem KR.done (h : KR B s ob k n z w v i ts us) : InC (ON B (ob + 1)) w (.s ts.length 4 (ts.flatMap tyC)) v := by
  rw [h.len]
  exact InC.of_owns h.own (h.ins.mono fun b _ hb => by
    rcases hb with hb | ⟨h1, _⟩
    · exact .inl hb
    · exact .inr h1) (fun b hb => .inr (own_lo17 h.own b hb).1) (by rw [flatC_len tyC_len, h.len])
end

def SubB (l : List Ty) (x : Ty) : Prop := ∀ (B : Nat) (u : Value) (al : Option Addr) (cl : Nat) (w : World), B ≤ w.heap.size → IsV (fun q => q < B) w (tyC x) u → InC (fun q => q < B) w (.s l.length 4 (tysC l)) (.slice al l.length cl) → okT x →
  Calls Tryd.prog 26 #[u, .slice al l.length cl] w fun e w' => ∃ v, e = .returned v ∧ IsV (ON B w.heap.size) w' (tyC (x.rep (substF l))) v ∧ Below w.heap.size w w'

set_option maxRecDepth 100000 in
set_option maxHeartbeats 16000000 in
theorem rsub_step (l : List Ty) (k n : Int) (s : By) (kids : List Ty) (hX : ∀ x ∈ kids, SubB l x) : SubB l (.mk k n s kids) := by
  intro B u al cl w hB hv hl hok
  obtain ⟨i0, hi0, hy0, hy1, hy2⟩ := info_parts Tryd.zinfoT
  obtain ⟨a, c, rfl, hk⟩ := hv.ty
  have hLm := hk.max_len
  obtain ⟨d, hd⟩ := hok
  have hwd := (mayL_lim d _ hd).2
  simp only [Ty.wd] at hwd
  obtain ⟨d, rfl⟩ : ∃ e, d = e + 1 := ⟨d - 1, by cases d with
    | zero => simp [mayL] at hd
    | succ d => rfl⟩
  simp only [mayL, Bool.and_eq_true, List.all_eq_true] at hd
  obtain ⟨z, hz⟩ : ∃ z, strB s = z := ⟨_, rfl⟩
  obtain ⟨m, hm⟩ : ∃ m, kids.length = m := ⟨_, rfl⟩
  rw [hz, hm]
  have HZ := Lib.hid hz
  rw [tysC_eq] at hk
  have HK := Lib.hid hk
  have HM := Lib.hid hm
  have HX := Lib.hid hX
  have HD := Lib.hid hd
  have hm9 : m ≤ 1000 := by omega
  rw [hm] at HK hLm
  obtain ⟨W0, hW0⟩ : ∃ W0, (w.alloc (.cells #[.int .i64 k, .int .i64 n, .string z, .slice a m c] 47)).alloc (.cells #[.int .i64 0, .int .i64 0, .string ⟨#[]⟩, .slice none 0 0] 47) = W0 := ⟨_, rfl⟩
  have hs0 : W0.heap.size = w.heap.size + 2 := by rw [← hW0]; simp
  have hb0 : Below w.heap.size w W0 := hW0 ▸ ((Below.refl _ w).alloc (Nat.le_refl _) _).alloc (by simp) _
  have hbx : Box W0 w.heap.size 47 [.int .i64 k, .int .i64 n, .string z, .slice a m c] := hW0 ▸ (Box.new w 47 [.int .i64 k, .int .i64 n, .string z, .slice a m c]).alloc _
  have hrx : Box W0 (w.heap.size + 1) 47 tZero := by
    rw [← hW0]
    have := Box.new (w.alloc (.cells #[.int .i64 k, .int .i64 n, .string z, .slice a m c] 47)) 47 tZero
    rwa [World.size_alloc] at this
  have HBW := Lib.hid hb0
  have HBX := Lib.hid hbx
  have HRX := Lib.hid hrx
  obtain ⟨_, _, _, _⟩ := four_cells hbx
  have hbl := hbx.lt
  obtain ⟨_, _, _, _⟩ := four_cells hrx
  obtain ⟨_, _, _, _⟩ := four_frozen hrx
  have hrl := hrx.lt
  have HL := Lib.hid hl
  obtain ⟨nl, hnl⟩ : ∃ nl, l.length = nl := ⟨_, rfl⟩
  have HNL := Lib.hid hnl
  rw [hnl]
  by_cases h1 : k = 1
  · subst h1
    have hh := hd.1
    rw [headMay_eq, if_pos rfl] at hh
    simp only [Bool.and_eq_true, decide_eq_true_eq] at hh
    obtain ⟨⟨⟨hn0, hn1⟩, rfl⟩, hk0⟩ := hh
    obtain rfl : kids = [] := List.eq_nil_of_length_eq_zero hk0
    obtain rfl : m = 0 := by rw [← hm]; rfl
    obtain ⟨j, rfl⟩ : ∃ j : Nat, n = (j : Int) := ⟨n.toNat, by omega⟩
    have hrep : (Ty.mk 1 (j : Int) [] []).rep (substF l) = substF l (j : Int) := by simp [Ty.rep]
    rw [hrep]
    have e0 : decide ((0 : Int) ≤ (j : Int)) = true := decide_eq_true (by omega)
    have hLm2 := hl.max_len
    rw [hnl] at hLm2
    by_cases hlt : j < nl
    · have e1 : decide ((j : Int) < (nl : Int)) = true := decide_eq_true (by omega)
      have e2 : decide (j < nl) = true := decide_eq_true hlt
      obtain ⟨x, hx⟩ : ∃ x, l[j]? = some x := ⟨_, List.getElem?_eq_getElem (by omega)⟩
      rw [substF_at hx]
      have hK := hl.belowB (hb0.mono hB)
      rw [tysC_eq] at hK
      obtain ⟨g, off, k', n', s', a', m', c', rfl, hgr, hxv, f1, f2, f3, f4, q0, q1, q2, q3⟩ := kid_cellsB hK hx (Below.refl _ _)
      clear f1 f2 f3 f4
      obtain ⟨z', hz'⟩ : ∃ z', strB s' = z' := ⟨_, rfl⟩
      rw [hz'] at hxv q2
      have HV := Lib.hid hxv
      have T1 : ∀ W, Sem.run Tryd.prog (Instr.indexAt 45 (.slice (some ⟨g, off, none⟩) nl cl) (.int .i64 (j : Int))) W = .ok (.pointer (some ⟨g, off + j * 4, none⟩)) W := fun W => by go_simp
      clear hk hX hz hm hb0 hbx hrx hrep hwd hv hd hl hnl HX HK HM HD hx hK hxv hz' hs0
      go_enter Tryd.func26, Tryd.ntmps26
      go_upto_region 1 with fail
      try rw [hW0]
      try clear hW0
      go_wp2_with fail
      refine bodyPost_ret (v := .agg #[.int .i64 k', .int .i64 n', .string z', .slice a' m' c']) (by simp only [results, Tryd.results26]; go_simp <;> rfl) rfl ?_
      refine ⟨_, rfl, ?_, ?_⟩
      · exact (HV.out.set4 (b := w.heap.size + 1) (by show ¬ (_ < B); omega) _ _ _ _).mono (fun b _ h => .inl h)
      · exact below_set4t HBW.out (by omega)
    · have e1 : decide ((j : Int) < (nl : Int)) = false := decide_eq_false (by omega)
      have e2 : decide (j < nl) = false := decide_eq_false hlt
      rw [substF_not (by omega)]
      clear hk hX hm hb0 hbx hrx hrep hwd hv hd hl hnl HX HK HM HD hs0 hz
      go_enter Tryd.func26, Tryd.ntmps26
      go_upto_region 1 with fail
      try rw [hW0]
      try clear hW0
      go_wp2_with fail
      refine bodyPost_ret (v := .agg #[.int .i64 1, .int .i64 (j : Int), .string z, .slice a 0 c]) (by simp only [results, Tryd.results26]; go_simp <;> rfl) rfl ?_
      refine ⟨_, rfl, ?_, ?_⟩
      · rw [← HZ.out]; exact IsV.of_ty (.e _ _ _)
      · exact below_set4t HBW.out (by omega)
  · have e1 : (k == 1) = false := by simpa using h1
    have hrep : (Ty.mk k n s kids).rep (substF l) = .mk k n s (kids.map (Ty.rep (substF l))) := by simp only [Ty.rep]; rw [if_neg h1, Ty.reps_eq]
    rw [hrep]
    clear hk hX hz hm hb0 hbx hrx h1 hrep hwd hv hd hl hnl
    go_enter Tryd.func26, Tryd.ntmps26
    go_upto_region 1 with fail
    try rw [hW0]
    try clear hW0
    have HS0 := Lib.hid (KR.start (k := k) (n := n) (z := z) (B := B) (s := w.heap.size) W0 (by omega) (by omega))
    obtain ⟨W1, hW1⟩ : ∃ W1, W0.alloc (.cells #[.int .i64 k, .int .i64 n, .string z, .slice none 0 0] 47) = W1 := ⟨_, rfl⟩
    have hb1 : Below W0.heap.size W0 W1 := hW1 ▸ (Below.refl _ W0).alloc (Nat.le_refl _) _
    obtain ⟨ob, hob⟩ : ∃ ob, W0.heap.size = ob := ⟨_, rfl⟩
    have hobs : ob = w.heap.size + 2 := by omega
    have HB1 := Lib.hid (HBW.out.trans (hb1.mono HBW.out.size))
    have HBX1 := Lib.hid (HBX.out.below hb1)
    have HRX1 := Lib.hid (HRX.out.below hb1)
    rw [hW1, hob] at HS0
    have HOB := Lib.hid hob
    clear hobs
    have hobs : ob = w.heap.size + 2 := by omega
    have HOB2 := Lib.hid hobs
    have hobl : w.heap.size + 1 < ob := by omega
    clear hobs
    have hx9 := HBX1.out
    obtain ⟨_, _, _, _⟩ := four_cells hx9
    have hx9l := hx9.lt
    have hz9l : ob < W1.heap.size := HS0.out.box.lt
    have HW1 := Lib.hid hW1
    clear hb1 hob HBX HRX hx9 hs0 hW1
    go_wp2_with fail
    have hW1 := HW1.out
    try rw [hW1]
    clear hW1
    have hob := HOB.out
    try rw [hob]
    clear hob
    go_loopw [6] (fun iv wr => ∃ (i : Nat) (v : Value) (us : List Value), i ≤ m ∧ iv = .int .i64 (i : Int) ∧ Hid (KR B w.heap.size ob k n z wr v i ((kids.take i).map (Ty.rep (substF l))) us) ∧ Hid (Out (fun q => ob ≤ q) W1 wr)) (fun iv _ => m - (intOf iv).toNat)
    case atStart => exact ⟨0, .slice none 0 0, [], Nat.zero_le _, rfl, by simpa [Hid] using HS0.out, Out.refl _ _⟩
    case round =>
      clear HS0
      obtain ⟨i, v, us, hi, rfl, HS, HO⟩ := hrel
      rename World => wr
      obtain ⟨va, vc, rfl⟩ := own_shape17 HS.out.own
      have hbx := HO.out.box HBX1.out (show ¬ (ob ≤ w.heap.size) by omega)
      have hrx := HO.out.box HRX1.out (show ¬ (ob ≤ w.heap.size + 1) by omega)
      have hsx := HS.out.box
      have HBw : Hid (Below w.heap.size w wr) := HB1.out.trans (HO.out.below HB1.out.size (fun q hq => by show ¬ (ob ≤ q); omega))
      obtain ⟨_, _, _, _⟩ := four_cells hbx
      have hbl2 := hbx.lt
      obtain ⟨_, _, _, _⟩ := four_cells hsx
      have hsl2 := hsx.lt
      by_cases hlt : i < m
      · obtain ⟨x, hx⟩ : ∃ x, kids[i]? = some x := ⟨_, List.getElem?_eq_getElem (by rw [HM.out]; exact hlt)⟩
        have hK9 := HK.out
        rw [← HM.out] at hK9
        obtain ⟨g, off, k', n', s', a', m', c', rfl, hgr, hxv, f1, f2, f3, f4, q0, q1, q2, q3⟩ := kid_cellsB hK9 hx (HBw.out.mono hB)
        clear f1 f2 f3 f4
        have hxm := List.mem_of_getElem? hx
        obtain ⟨z', hz'⟩ : ∃ z', strB s' = z' := ⟨_, rfl⟩
        rw [hz'] at hxv q2
        have HTK : Hid ((kids.take (i + 1)).map (Ty.rep (substF l)) = (kids.take i).map (Ty.rep (substF l)) ++ [x.rep (substF l)]) := by show _ = _; rw [take_snoc' hx]; simp
        have hBr : B ≤ wr.heap.size := Nat.le_trans hB HBw.out.size
        have HC : Hid (Calls Tryd.prog 26 #[.agg #[.int .i64 k', .int .i64 n', .string z', .slice a' m' c'], .slice al nl cl] wr.drew fun e w' => ∃ v, e = .returned v ∧ IsV (ON B wr.heap.size) w' (tyC (x.rep (substF l))) v ∧ Below wr.heap.size wr.drew w') := by
          have h := HX.out x hxm B _ al cl wr.drew hBr (hxv.agree (fun b h1 _ => ⟨h1, rfl⟩) (Nat.le_refl _)) ((HL.out.belowB (HBw.out.mono hB)).agree (fun b h1 _ => ⟨h1, rfl⟩) (Nat.le_refl _)) ⟨d, HD.out.2 x hxm⟩
          rw [HNL.out] at h
          exact h
        have T1 : ∀ W, Sem.run Tryd.prog (Instr.indexAt 45 (.slice (some ⟨g, off, none⟩) m c) (.int .i64 (i : Int))) W = .ok (.pointer (some ⟨g, off + i * 4, none⟩)) W := fun W => by go_simp
        have HLW := Lib.hid (own_lo17 HS.out.own)
        have Q1 : Hid (i + 1 ≤ maxLen) := by unfold maxLen; show _ ≤ _; omega
        have Q2 : Hid ((i + 1) * 56 ≤ 140737488355328) := by show _ ≤ _; omega
        clear hx hxv hz' hK9 hxm hbx hrx hsx
        go_upto_region 9 with fail
        go_region_law (first
          | (refine step_append_lies _ rfl _ _ 45 rfl (ob + 1) 47 i0 (.agg #[.int .i64 0, .int .i64 0, .string ⟨#[]⟩, .slice none 0 0]) 4 56 Tryd.underlying45 hi0 hy0 hy1 hy2 rfl (by decide) (.slice va i vc) i us rfl (HR4.out.alloc _) ⟨w4.heap.size, 0, none⟩ 1 1 [.int .i64 z0, .int .i64 z1, .string (strB z2), .slice z3 z4 z5] rfl rfl (news_at17 (cs := [.int .i64 z0, .int .i64 z1, .string (strB z2), .slice z3 z4 z5]) rfl) (by simp [Value.oneCell']) (by decide) Q1.out Q2.out Q3.out _ rfl ?_; intro g9 cap9 w9 hown9 hgrow hat hlt9; have hz9 := hgrow.size; rw [World.size_alloc] at hz9; have z9 := (HS4.out.box.alloc (.cells #[.int .i64 z0, .int .i64 z1, .string (strB z2), .slice z3 z4 z5] 47)).grown hgrow (fun e => HS4.out.no e.symm); have hbq := (show Box _ _ _ [.int .i64 k, .int .i64 n, .string z, .slice va i vc] from z9); obtain ⟨_, _, _, _⟩ := four_cells hbq; obtain ⟨_, _, _, _⟩ := four_frozen hbq; have hz9l := z9.lt; have HOWN := Lib.hid hown9; have HGR := Lib.hid hgrow; rw [World.size_alloc] at hat; have HAT := Lib.hid hat; clear z9 hbq hown9 hgrow hat)
          | (refine step_plain17 rfl ?_; go_simp; go_at_call 26; (with_reducible refine (HC.out).mono ?_); rintro e w4 ⟨v, rfl, hv, hbz⟩; obtain ⟨z0, z1, z2, z3, z4, z5, hz9⟩ := hv.tys; subst hz9; have hb4 : Below wr.heap.size wr w4 := (Below.refl _ wr).drew.trans hbz; have HS4 := Lib.hid (HS.out.below hb4); have HB4 := Lib.hid hb4; have HV4 := Lib.hid hv.cells; have hbq := HS4.out.box; obtain ⟨_, _, _, _⟩ := four_cells hbq; obtain ⟨_, _, _, _⟩ := four_frozen hbq; have hbql := hbq.lt; have HR4 := Lib.hid HS4.out.own; have Q3 : Hid (ob + 1 ≤ (w4.alloc (.cells #[.int .i64 z0, .int .i64 z1, .string (strB z2), .slice z3 z4 z5] 47)).heap.size) := (by show ob + 1 ≤ _; rw [World.size_alloc]; omega); clear hbq hv hbz hb4))
        all_goals (have HV5 : Hid (InS (SK B w.heap.size ob (.slice va i vc)) w4 (tyC (x.rep (substF l))) [.int .i64 z0, .int .i64 z1, .string (strB z2), .slice z3 z4 z5]) := Lib.hid (by
          have h := HV4.out.mono (S' := SK B w.heap.size ob (.slice va i vc)) (fun b _ hb => by
            rcases hb with hb | hb
            · exact .inl hb
            · refine .inr ⟨by omega, fun e => ?_⟩
              have := (HLW.out b e.symm).2; omega)
          simpa [Value.cells] using h))
        all_goals (have HS9 := Lib.hid (HS4.out.push HV5.out HOWN.out HGR.out HAT.out))
        all_goals (have HO9 : Hid (Out (fun q => ob ≤ q) W1 (w9.setCell ⟨ob, 3, none⟩ (.slice (some ⟨g9, 0, none⟩) (i + 1) cap9))) := Lib.hid (((((HO.out.next HB4.out).alloc _).grown HGR.out (fun q hq => .inl (by have := (HLW.out q hq).1; omega))).setCell (p := ⟨ob, 3, none⟩) (.inl (Nat.le_refl _)) _)))
        all_goals (clear HAT HGR HOWN HV4 HS4 HC HR4 HV5)
        all_goals go_wp2_with fail
        all_goals go_roundw
        all_goals first
          | exact ⟨i + 1, _, _, by omega, by go_num, by rw [HTK.out]; exact HS9, HO9⟩
          | (simp [intOf]; omega)
      · have him : i = m := by omega
        subst him
        obtain ⟨_, _, _, _⟩ := four_cells hrx
        obtain ⟨_, _, _, _⟩ := four_frozen hrx
        have hrl2 := hrx.lt
        clear hbx hrx hsx
        go_wp2_with fail
        refine bodyPost_ret (v := .agg #[.int .i64 k, .int .i64 n, .string z, .slice va i vc]) (by simp only [results, Tryd.results26]; go_simp <;> rfl) rfl ?_
        have hd9 := HS.out.done
        rw [List.take_of_length_le (by rw [HM.out]; exact Nat.le_refl _), ← tysC_eq] at hd9
        refine ⟨_, rfl, ?_, ?_⟩
        · rw [← HZ.out]
          have h2 : IsV (ON B (ob + 1)) wr (tyC (.mk k n s (kids.map (Ty.rep (substF l))))) (.agg #[.int .i64 k, .int .i64 n, .string (strB s), .slice va i vc]) := IsV.of_ty hd9
          exact (h2.set4 (b := w.heap.size + 1) (by rintro (h | h) <;> omega) _ _ _ _).mono (fun b _ h => by
            rcases h with h | h
            · exact .inl h
            · refine .inr ?_; omega)
        · exact below_set4t HBw.out (by omega)
theorem rsub_all (l : List Ty) (x : Ty) : SubB l x := Ty.ind (P := SubB l) (fun k n s kids ih => rsub_step l k n s kids ih) x

end Go.Proofs.YtpfcpeljfgmjgaaDoor
