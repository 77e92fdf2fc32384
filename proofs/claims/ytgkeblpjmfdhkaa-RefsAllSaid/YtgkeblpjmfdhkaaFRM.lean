/- The document's free. The document's Graph. The document's SameLists: two lists of rows that say the same. -/
import Derived.Test.YtgkeblpjmfdhkaaFAM
import Derived.Test.YtgkeblpjmfdhkaaYBM
import Derived.Deep.RegionHeldLaw
import Derived.Test.YtgkeblpjmfdhkaaFGM
import Derived.BigRegion
import Derived.Deep.RegionHeld3
namespace Go.Proofs.Ytgkeblpjmfdhkaa
open Go.RowKit Go.Maps
set_option linter.unusedVariables false
set_option linter.unusedSimpArgs false

theorem placeL_noneF : ∀ {vs : List By} {s : By}, placeL vs s = none ↔ s ∉ vs
  | [], s => by simp [placeL]
  | v :: r, s => by
    rw [placeL]
    by_cases e : v = s
    · rw [if_pos e]; simp [e]
    · rw [if_neg e, Option.map_eq_none_iff, placeL_noneF]
      simp only [List.mem_cons, not_or]
      exact ⟨fun h => ⟨fun q => e q.symm, h⟩, fun h => h.2⟩
theorem placeI_negF {vs : List By} {s : By} : placeI vs s < 0 ↔ s ∉ vs := by
  unfold placeI
  cases h : placeL vs s with
  | none => simp; exact placeL_noneF.1 h
  | some i =>
    simp only
    constructor
    · intro h2; omega
    · intro h2; rw [placeL_noneF.2 h2] at h; cases h
theorem run_append_noneC {P : Program} {w : World} (base : Nat) (t ty e : TypeId) (i : TypeInfo) (size c : Nat) (ht : P.underlying t = some (.slice e)) (hi : P.info? e = some i)
    (v : Value) (n : Nat) (xs : List Value) (hown : w.ownsRow base e size v n xs) : (Builtin.append_ #[t, t] ty #[v, .slice none 0 c]).run P w = .ok v w := by
  rcases hown.2 with ⟨rfl, rfl⟩ | ⟨g, cap, cur, rfl, _, _, hnc, _⟩
  · simp [Builtin.append_, run_underlying ht, sizeOf, typeInfo, hi, Builtin.lenOf, Builtin.firstCells]
  · simp [Builtin.append_, run_underlying ht, sizeOf, typeInfo, hi, Builtin.lenOf, Builtin.firstCells, hnc, storeCells]
/-- 'append' in a drawn region, whatever is appended. -/
theorem step_append_any {P : Program} {ops : Array Oper} {o : Oper} {a : Act} {w : World} {K : Act → World → Prop} {Q : Exit → Act → World → Prop} {E : Prop} (hgd : o.guard = none) (s x : Operand) (t : TypeId)
    (ho : o.op = .call { callee := .builtin .append, args := #[s, x], argTypes := #[t, t] })
    (base : Nat) (e : TypeId) (i : TypeInfo) (z : Value) (size bytes : Nat) (ht : P.underlying t = some (.slice e)) (hi : P.info? e = some i) (hz : i.zero = some z)
    (hsize : i.size = size) (hby : i.bytes = bytes) (hzs : z.cells.size = size) (hsz : 0 < size)
    (v : Value) (n : Nat) (xs : List Value) (hs : a.eval s = v) (hown : w.ownsRow base e size v n xs)
    (ao : Option Addr) (m c : Nat) (news : List Value) (hx : a.eval x = .slice ao m c) (hnil : ao = none → m = 0) (hl : news.length = m * size)
    (hnews : ∀ ad, ao = some ad → ∀ j u, news[j]? = some u → w.cell? (ad.add j) = some u) (h1 : ∀ u ∈ news, u.oneCell' = true)
    (h63 : n + m ≤ maxLen) (hbytes : (n + m) * bytes ≤ 140737488355328) (hbase : base ≤ w.heap.size)
    (h : ∀ v' w', w'.ownsRow base e size v' (n + m) (xs ++ news) → w.grownBy w' v.ownBlock → K (a.put o.dst v') w') : if Region.wanted o (yielded ops a.tmps) = true then Oper.wp P o a w K Q else E := by
  rw [if_pos (by simp [Region.wanted, hgd])]
  cases ao with
  | some ad => exact wp_append_own (w := w) s x t ho base e i z size bytes ht hi hz hsize hby hzs hsz v n xs hs hown ad m c news hx hl (hnews ad rfl) h1 h63 hbytes hbase (fun v' w' h2 h3 _ => h v' w' h2 h3)
  | none =>
    obtain rfl := hnil rfl
    obtain rfl : news = [] := List.eq_nil_of_length_eq_zero (by simpa using hl)
    have hrun := run_append_noneC (P := P) (w := w) base t o.type e i size c ht hi v n xs hown
    unfold Oper.wp
    simp [execOp, ho, resolve, invoke, builtin, hs, hx, hrun, Result.andThen]
    exact h v w (by simpa using hown) (World.grownBy.refl _ _)
theorem strs_newsF {S : Nat → Prop} {w : World} {l : List By} {a : Option Addr} {m c : Nat} (h : InC S w (.s l.length 1 (strsC l)) (.slice a m c)) : ∀ ad, a = some ad → ∀ (j : Nat) (u : Value), (l.map strV)[j]? = some u → w.cell? (ad.add j) = some u := by
  rintro ad rfl j u hu
  rw [List.getElem?_map] at hu
  cases hx : l[j]? with
  | none => rw [hx] at hu; cases hu
  | some x =>
    rw [hx] at hu
    obtain rfl := Option.some.inj hu
    obtain ⟨b, off, e, hb, hc⟩ := h.text hx
    cases e
    rw [Addr.add_lit]
    exact hc
theorem strV_oneF (l : List By) : ∀ u ∈ l.map strV, u.oneCell' = true := fun u hu => by obtain ⟨x, _, rfl⟩ := List.mem_map.1 hu; rfl
/-- One text in a block of its own, read behind a growth elsewhere. -/
theorem one_new {w : World} {b : Nat} {z : ByteArray} (h : Box w b 9 [.string z]) : ∀ ad, some (⟨b, 0, none⟩ : Addr) = some ad → ∀ (j : Nat) (u : Value), [Value.string z][j]? = some u → w.cell? (ad.add j) = some u := by
  rintro ad e j u hu
  cases e
  match j, hu with
  | 0, hu => simp at hu; subst hu; exact h.cell 0

theorem nz1 {w w9 : World} {z : ByteArray} {o : Obj} (hgr : ((w.alloc o).alloc (.cells #[.string z] 9)).drew.grownBy w9 (some w.heap.size)) : ∀ ad, some (⟨w.heap.size + 1, 0, none⟩ : Addr) = some ad → ∀ (j : Nat) (u : Value), [Value.string z][j]? = some u → w9.cell? (ad.add j) = some u := by
  have h := Box.grown ((Box.new (w.alloc o) 9 [.string z]).drew) hgr (by rw [World.size_alloc]; intro e; have := Option.some.inj e; omega)
  rw [World.size_alloc] at h
  exact one_new h
theorem nz2 {w w9 : World} {z : ByteArray} {o : Obj} (hgr : ((w.alloc (.cells #[.string z] 9)).alloc o).drew.grownBy w9 (some (w.heap.size + 1))) : ∀ ad, some (⟨w.heap.size, 0, none⟩ : Addr) = some ad → ∀ (j : Nat) (u : Value), [Value.string z][j]? = some u → w9.cell? (ad.add j) = some u := 
  one_new (Box.grown (((Box.new w 9 [.string z]).alloc o).drew) hgr (by intro e; have := Option.some.inj e; omega))
theorem nz3 {w9 : World} {z : ByteArray} : ∀ ad, some (⟨w9.heap.size, 0, none⟩ : Addr) = some ad → ∀ (j : Nat) (u : Value), [Value.string z][j]? = some u → (w9.alloc (.cells #[.string z] 9)).cell? (ad.add j) = some u := one_new (Box.new w9 9 [.string z])
/-- A row that was copied and has one text more, as memory. -/
theorem snoc_inc {w : World} {base n : Nat} {v : Value} {l : List By} {s : By} {z : ByteArray} (hz : strV s = .string z) (h : w.ownsRow base 9 1 v (n + 1) (l.map strV ++ [.string z])) (hn : l.length = n) : ∃ a c, v = .slice a (n + 1) c ∧ InC (fun _ => True) w (.s (n + 1) 1 (strsC (l ++ [s]))) (.slice a (n + 1) c) ∧ (a = none → n + 1 = 0 ∧ c = 0) := by
  have h' : w.ownsRow base 9 1 v (n + 1) ((l ++ [s]).map strV) := by rw [List.map_append, List.map_cons, List.map_nil, hz]; exact h
  obtain ⟨a, c, rfl⟩ := own_shape h
  exact ⟨a, c, rfl, InC.of_owns h' (strsC_ins _ _ _) (fun _ _ => trivial) (by rw [strsC_len]; simp [hn]), own_nil h⟩
theorem six_belowF {w w' : World} {g o : Nat} {v : Value} (hb : Below w.heap.size w w') (hg : g < w.heap.size) (h : w.cell? ⟨g, o, none⟩ = some v) : w'.cell? ⟨g, o, none⟩ = some v := (hb.cell (p := ⟨g, o, none⟩) hg).trans h
/-- Two rows, one behind the other, as memory. -/
theorem app_inc {w : World} {base n : Nat} {v : Value} {l : List By} (h : w.ownsRow base 9 1 v n (l.map strV)) (hn : l.length = n) : ∃ a c, v = .slice a n c ∧ InC (fun _ => True) w (.s n 1 (strsC l)) (.slice a n c) ∧ (a = none → n = 0 ∧ c = 0) := by
  obtain ⟨a, c, rfl⟩ := own_shape h
  exact ⟨a, c, rfl, InC.of_owns h (strsC_ins _ _ _) (fun _ _ => trivial) (by rw [strsC_len]; simp [hn]), own_nil h⟩
/-- What the document's free tells of an expression. -/
def FRX (x : Ex) : Prop := ∀ (out bd : List By) (ao ab : Option Addr) (co cb : Nat) (S : Nat → Prop) (u : Value) (w : World), x.fit → IsV S w (exC x) u → InC (fun _ => True) w (.s out.length 1 (strsC out)) (.slice ao out.length co) → (ao = none → out.length = 0 ∧ co = 0) → InC (fun _ => True) w (.s bd.length 1 (strsC bd)) (.slice ab bd.length cb) → (ab = none → bd.length = 0 ∧ cb = 0) → out.length + bd.length + 3 * x.nn + 3 ≤ 900000 →
  Calls Try.prog 73 #[.slice ao out.length co, u, .slice ab bd.length cb] w fun e w' => ∃ a' c', e = .returned (.slice a' (addAll out (x.occ bd)).length c') ∧ InC (fun _ => True) w' (.s (addAll out (x.occ bd)).length 1 (strsC (addAll out (x.occ bd)))) (.slice a' (addAll out (x.occ bd)).length c') ∧ (a' = none → (addAll out (x.occ bd)).length = 0 ∧ c' = 0) ∧ Below w.heap.size w w'

set_option maxRecDepth 100000 in
set_option maxHeartbeats 16000000 in
theorem frx_step (k p : Int) (s : By) (n : Int) (kids : List Ex) (alts : List Al) (hX : ∀ x ∈ kids, FRX x) (hAX : ∀ p s names x, Al.mk p s names x ∈ alts → FRX x) : FRX (.mk k p s n kids alts) := by
  intro out bd ao ab co cb S u w hf hv0 hout hnil hbd hnil' h2
  obtain ⟨i0, hi0, hy0, hy1, hy2⟩ := info_parts Try.zstrInfo
  obtain ⟨O, hO⟩ : ∃ O, addAll out ((Ex.mk k p s n kids alts).occ bd) = O := ⟨_, rfl⟩
  have hv : IsV (fun q => q < w.heap.size) w (exC (.mk k p s n kids alts)) u := hv0.mono fun q h1 _ => h1
  obtain ⟨a, c, a', c', rfl, hk, hk'⟩ := hv.ex
  have hLm := hk.max_len
  have hLm' := hk'.max_len
  obtain ⟨m, hm⟩ : ∃ m, kids.length = m := ⟨_, rfl⟩
  obtain ⟨m', hm'⟩ : ∃ m', alts.length = m' := ⟨_, rfl⟩
  obtain ⟨z, hz⟩ : ∃ z, strB s = z := ⟨_, rfl⟩
  rw [hO]
  simp only [Ex.fit] at hf
  obtain ⟨hf1, hlam, hf2, hf3⟩ := hf
  simp only [Ex.nn] at h2
  obtain ⟨O1, hO1⟩ : ∃ O1, addAll out (if k = 1 ∧ s ∉ bd then [s] else []) = O1 := ⟨_, rfl⟩
  have hO2 : addAll (addAll O1 (Ex.occs bd k s 0 kids)) (Al.occs bd alts) = O := by
    rw [← hO, ← hO1]; simp only [Ex.occ]; rw [addAll_app, addAll_app]
  have hO1l : O1.length ≤ out.length + 1 := by
    rw [← hO1]; refine Nat.le_trans (out_le _ _) ?_; split <;> simp
  obtain ⟨TO, hTO⟩ : ∃ TO, out.length + 1 + Ex.nns kids + Al.nns alts = TO := ⟨_, rfl⟩
  have hb0 : Below w.heap.size w (w.alloc (.cells #[.int .i64 k, .int .i64 p, .string z, .int .i64 n, .slice a m c, .slice a' m' c'] 43)) := (Below.refl _ w).alloc (Nat.le_refl _) _
  obtain ⟨r1, hr1⟩ : ∃ r1, decide (k = 1 ∧ s ∉ bd ∧ s ∉ out) = r1 := ⟨_, rfl⟩
  have hP1 := Lib.hid (fun (w' : World) (hb : Below w.heap.size w w') => y_place (fun _ => True) bd s ab cb w' (hbd.under hb) (by omega))
  have hP2 := Lib.hid (fun (w' : World) (hb : Below w.heap.size w w') => y_place (fun _ => True) out s ao co w' (hout.under hb) (by omega))
  rw [hz] at hP1 hP2
  obtain ⟨nb, hnb⟩ : ∃ nb, bd.length = nb := ⟨_, rfl⟩
  obtain ⟨no, hno⟩ : ∃ no, out.length = no := ⟨_, rfl⟩
  obtain ⟨pb, hpb⟩ : ∃ pb, placeI bd s = pb := ⟨_, rfl⟩
  obtain ⟨po, hpo⟩ : ∃ po, placeI out s = po := ⟨_, rfl⟩
  rw [hnb, hpb] at hP1
  rw [hno, hpo] at hP2
  have hgb : (pb < 0) ↔ s ∉ bd := by rw [← hpb]; exact placeI_negF
  have hgo : (po < 0) ↔ s ∉ out := by rw [← hpo]; exact placeI_negF
  have HGB := Lib.hid hgb
  have HGO := Lib.hid hgo
  have HR1 := Lib.hid hr1
  have HO1 := Lib.hid hO1
  have HOUT := Lib.hid hout
  have HBD := Lib.hid hbd
  rw [hno] at hnil
  rw [hnb] at hnil'
  have HNIL := Lib.hid hnil
  have HNIL' := Lib.hid hnil'
  have HNO := Lib.hid hno
  have HNB := Lib.hid hnb
  have HB0 := Lib.hid (Box.new w 43 [.int .i64 k, .int .i64 p, .string z, .int .i64 n, .slice a m c, .slice a' m' c'])
  have HBW := Lib.hid hb0
  rw [exsC_eq] at hk
  rw [alsC_eq] at hk'
  have HK := Lib.hid hk
  have HK' := Lib.hid hk'
  rw [hm] at HK hLm
  rw [hm'] at HK' hLm'
  have HM := Lib.hid hm
  have HM' := Lib.hid hm'
  have HX := Lib.hid hX
  have HAX := Lib.hid hAX
  have HF2 := Lib.hid ((Ex.fits_iff kids).1 hf2)
  have HF3 := Lib.hid ((Al.fits_iff alts).1 hf3)
  have HLAM := Lib.hid hlam
  have HO2 := Lib.hid hO2
  have HTO := Lib.hid hTO
  have HO1L := Lib.hid hO1l
  have HZ := Lib.hid hz
  have HZS : Hid (strV s = .string z) := by show _ = _; rw [← hz]; rfl
  rw [hno, hnb] at h2
  have hno9 : no ≤ 900000 := by omega
  have hnb9 : nb ≤ 900000 := by omega
  have HH2 := Lib.hid h2
  rw [hm, hm', hz, hno, hnb]
  clear hv hv0 hout hnil hbd hnil' hk hk' hX hAX hf2 hf3 hf1 hlam hO2 h2 hO hm hm' hz hb0 hO1 hTO hO1l hr1 hnb hno hpb hpo hgb hgo
  go_enter Try.func73, Try.ntmps73
  go_upto_region 1 with fail
  obtain ⟨W0, hW0⟩ : ∃ W0, w.alloc (.cells #[.int .i64 k, .int .i64 p, .string z, .int .i64 n, .slice a m c, .slice a' m' c'] 43) = W0 := ⟨_, rfl⟩
  rw [show (w.alloc (.cells ([.int .i64 k, .int .i64 p, .string z, .int .i64 n, .slice a m c, .slice a' m' c'] : List Value).toArray 43)) = W0 from hW0] at HB0
  rw [hW0] at HBW
  try rw [hW0]
  clear hW0
  obtain ⟨_, _, _, _, _, _⟩ := six_cells HB0.out
  have hbl := HB0.out.lt
  go_cut [26] (fun v26 wx => v26 = .bool r1 ∧ Below W0.heap.size W0 wx)
  case first =>
    by_cases hk1 : k = 1
    · have e1 : (k == 1) = true := by rw [hk1]; rfl
      by_cases h1 : s ∈ bd
      · have e2 : decide (pb < 0) = false := decide_eq_false (fun q => HGB.out.1 q h1)
        have e3 : r1 = false := by rw [← HR1.out]; exact decide_eq_false (fun q => q.2.1 h1)
        subst e3
        clear hk1 h1
        go_wp2_with (go_at_call 70; (with_reducible refine (hP1.out _ HBW.out).mono ?_); rintro e wz ⟨rfl, nz, rfl⟩)
        go_meet
        exact ⟨rfl, below_drN (Below.refl _ _) _⟩
      · have e2 : decide (pb < 0) = true := decide_eq_true (HGB.out.2 h1)
        by_cases h3 : s ∈ out
        · have e4 : decide (po < 0) = false := decide_eq_false (fun q => HGO.out.1 q h3)
          have e3 : r1 = false := by rw [← HR1.out]; exact decide_eq_false (fun q => q.2.2 h3)
          subst e3
          clear hk1 h1 h3
          go_wp2_with (first
            | (go_at_call 70; (with_reducible refine (hP1.out _ HBW.out).mono ?_); rintro e wz ⟨rfl, nz, rfl⟩; have HBz := Lib.hid (below_drN HBW.out nz))
            | (go_at_call 70; (with_reducible refine (hP2.out _ HBz.out).mono ?_); rintro e wz ⟨rfl, nz2, rfl⟩))
          go_meet
          exact ⟨rfl, below_drN (Below.refl _ _) _⟩
        · have e4 : decide (po < 0) = true := decide_eq_true (HGO.out.2 h3)
          have e3 : r1 = true := by rw [← HR1.out]; exact decide_eq_true ⟨hk1, h1, h3⟩
          subst e3
          clear hk1 h1 h3
          go_wp2_with (first
            | (go_at_call 70; (with_reducible refine (hP1.out _ HBW.out).mono ?_); rintro e wz ⟨rfl, nz, rfl⟩; have HBz := Lib.hid (below_drN HBW.out nz))
            | (go_at_call 70; (with_reducible refine (hP2.out _ HBz.out).mono ?_); rintro e wz ⟨rfl, nz2, rfl⟩))
          go_meet
          exact ⟨rfl, below_drN (Below.refl _ _) _⟩
    · have e1 : (k == 1) = false := beq_false_of_ne hk1
      have e3 : r1 = false := by rw [← HR1.out]; exact decide_eq_false (fun q => hk1 q.1)
      subst e3
      clear hk1
      go_wp2_with fail
      go_meet
      exact ⟨rfl, Below.refl _ _⟩
  case rest =>
    obtain ⟨wo, rfl⟩ : ∃ wo, wo = wc := ⟨wc, rfl⟩
    obtain ⟨rfl, hbo⟩ := hcut
    have hbx := HB0.out.below hbo
    have HBO := Lib.hid hbo
    obtain ⟨_, _, _, _, _, _⟩ := six_cells hbx
    have hbl2 := hbx.lt
    have HBX := Lib.hid hbx
    have HOUT2 := Lib.hid ((HOUT.out.under HBW.out).under hbo)
    clear hbo hbx hP1 hP2
    have HIN : Hid (∀ w', Below wo.heap.size wo w' → InC (fun _ => True) w' (.s out.length 1 (strsC out)) (.slice ao no co)) := fun w' hw => by have := HOUT2.out.under hw; rw [HNO.out] at this ⊢; exact this
    have HLS : Hid ((out.map strV).length = no * 1) := by show _ = _; simp [HNO.out]
    have HQ1 : Hid (0 + no ≤ maxLen) := by show _ ≤ _; unfold maxLen; omega
    have HQ2 : Hid ((0 + no) * 16 ≤ 140737488355328) := by show _ ≤ _; omega
    have HQ3 : Hid (0 + no + 1 ≤ maxLen) := by show _ ≤ _; unfold maxLen; omega
    have HQ4 : Hid ((0 + no + 1) * 16 ≤ 140737488355328) := by show _ ≤ _; omega
    have HKR : Hid (∀ w', Below wo.heap.size wo w' → (Below wo.heap.size wo w' ∧ w'.cell? ⟨w.heap.size, 2, none⟩ = some (.string z))) := fun w' hb => ⟨hb, (HBX.out.below hb).cell 2⟩
    go_upto_if 26 with fail
    go_cut [0] (fun v0 wx => ∃ a0 c0, v0 = .slice a0 O1.length c0 ∧ InC (fun _ => True) wx (.s O1.length 1 (strsC O1)) (.slice a0 O1.length c0) ∧ (a0 = none → O1.length = 0 ∧ c0 = 0) ∧ Below wo.heap.size wo wx)
    case first =>
      cases r1 with
      | false =>
        have hE : O1 = out := by
          have h1 : ¬ (k = 1 ∧ s ∉ bd ∧ s ∉ out) := of_decide_eq_false HR1.out
          rw [← HO1.out]
          by_cases h2 : k = 1 ∧ s ∉ bd
          · rw [if_pos h2, addAll_one, if_pos (Decidable.not_not.1 fun q => h1 ⟨h2.1, h2.2, q⟩)]
          · rw [if_neg h2]; rfl
        have HE := Lib.hid hE
        clear hE
        go_wp2_with fail
        go_meet
        have h3 := HIN.out _ (Below.refl _ _)
        have h4 := HNIL.out
        refine ⟨ao, co, by rw [HE.out, HNO.out], ?_, ?_, Below.refl _ _⟩
        · rw [HE.out]; rw [HNO.out] at h3 ⊢; exact h3
        · rw [HE.out, HNO.out]; exact h4
      | true =>
        have hE : O1 = out ++ [s] := by
          have h1 : k = 1 ∧ s ∉ bd ∧ s ∉ out := of_decide_eq_true HR1.out
          rw [← HO1.out, if_pos ⟨h1.1, h1.2.1⟩, addAll_one, if_neg h1.2.2]
        have HE := Lib.hid hE
        clear hE
        go_upto_region 2 with fail
        go_region_law (first
            | (refine step_append_any rfl _ _ 53 rfl wo.heap.size 9 i0 (.string ⟨#[]⟩) 1 16 Try.underlying53 hi0 hy0 hy1 hy2 rfl (by decide) _ 0 [] rfl (by first | exact (World.ownsRow_made wo #[] 0 (Nat.le_refl _) (by decide) rfl).drew | exact ((World.ownsRow_made wo #[] 0 (Nat.le_refl _) (by decide) rfl).alloc _).drew | exact (show (((wo.alloc (.cells #[.string z] 9)).alloc (.cells #[] 9)).drew).ownsRow wo.heap.size 9 1 (.slice (some ⟨wo.heap.size + 1, 0, none⟩) 0 0) 0 [] by have h := (World.ownsRow_made (base := wo.heap.size) (e := 9) (size := 1) (wo.alloc (.cells #[.string z] 9)) #[] 0 (by simp) (by decide) rfl).drew; rw [World.size_alloc] at h; exact h)) ao no co (out.map strV) rfl (fun e => (HNIL.out e).1) HLS.out (strs_newsF (HIN.out _ (by repeat (first | with_reducible exact Below.refl _ _ | with_reducible exact HBa.out | with_reducible exact HBb.out | with_reducible refine Below.drew ?_ | with_reducible refine below_alloc ?_ (Nat.le_refl _) _)))) (strV_oneF _) HQ1.out HQ2.out (by simp; try omega) ?_; intro v9 w9 hown9 hgr9; have HBa := Lib.hid (show Below wo.heap.size wo w9 from Below.grown (by repeat (first | with_reducible exact Below.refl _ _ | with_reducible exact HBa.out | with_reducible exact HBb.out | with_reducible refine Below.drew ?_ | with_reducible refine below_alloc ?_ (Nat.le_refl _) _)) hgr9 (by simp; try omega) (by rintro q hq; cases hq; simp)); have bx9 := HBX.out.below HBa.out; obtain ⟨_, _, _, _, _, _⟩ := six_cells bx9; have bl9 := bx9.lt)
            | (refine step_append_any rfl _ _ 53 rfl wo.heap.size 9 i0 (.string ⟨#[]⟩) 1 16 Try.underlying53 hi0 hy0 hy1 hy2 rfl (by decide) v9 (0 + no) ([] ++ out.map strV) rfl (by first | exact hown9 | exact hown9.alloc _) (some _) 1 1 [.string z] rfl (by intro e; cases e) rfl (by first | exact nz1 hgr9 | exact nz2 hgr9 | exact nz3) (by simp [Value.oneCell']) HQ3.out HQ4.out (by have := HBa.out.size; simp; try omega) ?_; intro v10 w10 hown10 hgr10; have HBb := Lib.hid (show Below wo.heap.size wo w10 from Below.grown (by repeat (first | with_reducible exact Below.refl _ _ | with_reducible exact HBa.out | with_reducible exact HBb.out | with_reducible refine Below.drew ?_ | with_reducible refine below_alloc ?_ (Nat.le_refl _) _)) hgr10 (by have := HBa.out.size; simp; try omega) (fun q hq => (ownsRow_lo hown9 q hq).1))))
        all_goals go_wp2_with fail
        all_goals go_meet
        all_goals (
          obtain ⟨a0, c0, hv0, hi0', hn0⟩ := snoc_inc HZS.out (by simpa using hown10) HNO.out
          have hle : O1.length = no + 1 := by rw [HE.out, List.length_append, HNO.out]; rfl
          refine ⟨a0, c0, by rw [hle]; exact hv0, ?_, ?_, HBb.out⟩
          · rw [hle, HE.out]; exact hi0'
          · rw [hle]; exact hn0)
    case rest =>
      obtain ⟨w2, rfl⟩ : ∃ w2, w2 = wc := ⟨wc, rfl⟩
      obtain ⟨a0, c0, rfl, hi0', hn0', hb2⟩ := hcut
      have hbq := HBO.out.trans (hb2.mono HBO.out.size)
      have hbx2 := HB0.out.below hbq
      obtain ⟨_, _, _, _, _, _⟩ := six_cells hbx2
      have hbl3 := hbx2.lt
      have HBQ := Lib.hid hbq
      have HI0 := Lib.hid hi0'
      have HN0 := Lib.hid hn0'
      have HOc : Hid (addAll (addAll O1 (Ex.occs bd k s (0 + 0) (kids.drop 0))) (Al.occs bd alts) = O) := by show _ = _; simpa using HO2.out
      have HL0 : Hid (O1.length + Ex.nns (kids.drop 0) + Al.nns alts ≤ TO) := by show _ ≤ _; have := HTO.out; have := HO1L.out; have := HNO.out; simp; omega
      obtain ⟨lo0, hlo0⟩ : ∃ lo0, O1.length = lo0 := ⟨_, rfl⟩
      rw [hlo0] at HI0 HN0
      rw [hlo0]
      have HLO0 := Lib.hid hlo0
      have HBD2 := Lib.hid (HBD.out.under HBW.out)
      clear hi0' hn0' hb2 hbq hbx2 hlo0 HO2 HIN HLS HQ1 HQ2 HQ3 HQ4 HKR HBX HOUT2 HOUT
      go_wp2_with fail
      go_loopw [0, 7] (fun v0 iv wr => ∃ (i lo : Nat) (oi : List By) (ai : Option Addr) (ci : Nat), i ≤ m ∧ iv = .int .i64 (i : Int) ∧ v0 = .slice ai lo ci ∧ Hid (oi.length = lo) ∧ Hid (InC (fun _ => True) wr (.s lo 1 (strsC oi)) (.slice ai lo ci)) ∧ Hid (ai = none → lo = 0 ∧ ci = 0) ∧ Hid (addAll (addAll oi (Ex.occs bd k s (0 + i) (kids.drop i))) (Al.occs bd alts) = O) ∧ Hid (oi.length + Ex.nns (kids.drop i) + Al.nns alts ≤ TO) ∧ Hid (Below W0.heap.size W0 wr)) (fun _ iv _ => m - (intOf iv).toNat)
      case atStart => exact ⟨0, lo0, O1, a0, c0, Nat.zero_le _, rfl, rfl, HLO0, HI0, HN0, HOc, HL0, HBQ⟩
      case round =>
        clear HLO0 HI0 HN0 HOc HL0 HBQ
        obtain ⟨i, lo, oi, ai, ci, hi, rfl, rfl, HLO, HI, HNI, HR, HL, HB⟩ := hrel
        rename World => wr
        have hbx := HB0.out.below HB.out
        obtain ⟨_, _, _, _, _, _⟩ := six_cells hbx
        have hyl := hbx.lt
        have hGw := HBW.out.trans (HB.out.mono HBW.out.size)
        by_cases hlt : i < m
        · obtain ⟨x, hx⟩ : ∃ x, kids[i]? = some x := ⟨_, List.getElem?_eq_getElem (by rw [HM.out]; exact hlt)⟩
          have hxm := List.mem_of_getElem? hx
          have hnd := Ex.nns_drop hx
          have hnx := Ex.nns_mem hxm
          have hfx := HF2.out x hxm
          have hWX := HX.out x hxm
          have hnext := Ex.occs_next (bd := bd) (k := k) (s := s) (j := 0) hx
          have hk6 : k = 6 → i = 0 := fun h6 => by have := HLAM.out h6; have := HM.out; omega
          obtain ⟨rb, hrb⟩ : ∃ rb, decide (k = 6 ∨ (k = 7 ∧ i = 1)) = rb := ⟨_, rfl⟩
          obtain ⟨B, hB⟩ : ∃ B, (if rb = true then bd ++ [s] else bd) = B := ⟨_, rfl⟩
          have hBeq : BdEq B (bindsIn k s i ++ bd) := by
            rw [← hB]
            cases hq : rb with
            | true =>
              rw [hq] at hrb
              have h1 : k = 6 ∨ (k = 7 ∧ i = 1) := of_decide_eq_true hrb
              have h2 : bindsIn k s i = [s] := by
                unfold bindsIn
                rw [if_pos]
                rcases h1 with h | h
                · exact .inl ⟨h, hk6 h⟩
                · exact .inr h
              rw [if_pos rfl, h2]; exact bdEq_comm _ _
            | false =>
              rw [hq] at hrb
              have h1 : ¬ (k = 6 ∨ (k = 7 ∧ i = 1)) := of_decide_eq_false hrb
              have h2 : bindsIn k s i = [] := by
                unfold bindsIn
                rw [if_neg]
                rintro (h | h)
                · exact h1 (.inl h.1)
                · exact h1 (.inr h)
              rw [if_neg (by decide), h2]; exact BdEq.refl _
          obtain ⟨y1, hy1⟩ : ∃ y1, addAll oi (x.occ B) = y1 := ⟨_, rfl⟩
          have hyl1 : y1.length ≤ oi.length + (x.nn + 1) := by rw [← hy1]; exact Nat.le_trans (out_le _ _) (by have := Ex.occ_len x B; omega)
          have HRN : Hid (addAll (addAll y1 (Ex.occs bd k s (0 + (i + 1)) (kids.drop (i + 1)))) (Al.occs bd alts) = O) := by
            show _ = _
            have hR9 := HR.out
            rw [hnext, Nat.zero_add, ← Ex.occ_eq x hBeq, addAll_app, hy1] at hR9
            exact hR9
          have hBl : B.length ≤ nb + 1 := by rw [← hB]; split <;> simp [HNB.out]
          have hfin : ∀ (w' : World) (a8 : Option Addr) (c8 : Nat) (S' : Nat → Prop) (u' : Value), Below wr.heap.size wr w' → IsV S' w' (exC x) u' → InC (fun _ => True) w' (.s B.length 1 (strsC B)) (.slice a8 B.length c8) → (a8 = none → B.length = 0 ∧ c8 = 0) → Calls Try.prog 73 #[.slice ai lo ci, u', .slice a8 B.length c8] w' fun e w'' => ∃ a' c', e = .returned (.slice a' y1.length c') ∧ InC (fun _ => True) w'' (.s y1.length 1 (strsC y1)) (.slice a' y1.length c') ∧ (a' = none → y1.length = 0 ∧ c' = 0) ∧ Below w'.heap.size w' w'' := fun w' a8 c8 S' u' hw hu hb8 hn8 => by
            have h9 := HLO.out
            have := hWX oi B ai a8 ci c8 S' u' w' hfx hu (by rw [h9]; exact HI.out.under hw) (by rw [h9]; exact HNI.out) hb8 hn8 (by have := HL.out; have := HTO.out; have := HH2.out; have := HNO.out; omega)
            rw [hy1, h9] at this
            exact this
          have HFIN := Lib.hid hfin
          have HND := Lib.hid hnd
          have HYL := Lib.hid hyl1
          have HRB := Lib.hid hrb
          have HBE := Lib.hid hB
          have HXX := Lib.hid hx
          have HGW := Lib.hid hGw
          have HBX := Lib.hid hbx
          clear hx hxm hnd hnx hfx hWX hnext hk6 hrb hB hBeq hy1 hyl1 hBl hfin hGw hbx HR
          go_upto_region 7 with fail
          go_cut [53] (fun v53 wx => v53 = .bool rb ∧ Below wr.heap.size wr wx)
          case first =>
            by_cases hk6 : k = 6
            · have e1 : (k == 6) = true := by rw [hk6]; rfl
              have e3 : rb = true := by rw [← HRB.out]; exact decide_eq_true (.inl hk6)
              subst e3
              clear hk6
              go_wp2_with fail
              go_meet
              exact ⟨rfl, Below.refl _ _⟩
            · have e1 : (k == 6) = false := beq_false_of_ne hk6
              by_cases hk7 : k = 7
              · have e2 : (k == 7) = true := by rw [hk7]; rfl
                by_cases hi1 : i = 1
                · have e4 : ((i : Int) == 1) = true := by rw [hi1]; rfl
                  have e3 : rb = true := by rw [← HRB.out]; exact decide_eq_true (.inr ⟨hk7, hi1⟩)
                  subst e3
                  clear hk6 hk7 hi1
                  go_wp2_with fail
                  go_meet
                  exact ⟨rfl, Below.refl _ _⟩
                · have e4 : ((i : Int) == 1) = false := beq_false_of_ne (by omega)
                  have e3 : rb = false := by rw [← HRB.out]; exact decide_eq_false (fun q => q.elim hk6 (fun q => hi1 q.2))
                  subst e3
                  clear hk6 hk7 hi1
                  go_wp2_with fail
                  go_meet
                  exact ⟨rfl, Below.refl _ _⟩
              · have e2 : (k == 7) = false := beq_false_of_ne hk7
                have e3 : rb = false := by rw [← HRB.out]; exact decide_eq_false (fun q => q.elim hk6 (fun q => hk7 q.1))
                subst e3
                clear hk6 hk7
                go_wp2_with fail
                go_meet
                exact ⟨rfl, Below.refl _ _⟩
          case rest =>
            obtain ⟨wy, rfl⟩ : ∃ wy, wy = wc := ⟨wc, rfl⟩
            obtain ⟨rfl, hby⟩ := hcut
            have hbxy := HBX.out.below hby
            obtain ⟨_, _, _, _, _, _⟩ := six_cells hbxy
            have hbly := hbxy.lt
            have HBY := Lib.hid hbxy
            have HBYW := Lib.hid hby
            have HIN2 : Hid (∀ w', Below wy.heap.size wy w' → InC (fun _ => True) w' (.s bd.length 1 (strsC bd)) (.slice ab nb cb)) := fun w' hw => by have := ((HBD.out.under HGW.out).under HBYW.out).under hw; rw [HNB.out] at this ⊢; exact this
            have HLS2 : Hid ((bd.map strV).length = nb * 1) := by show _ = _; simp [HNB.out]
            have HR1q : Hid (0 + nb ≤ maxLen) := by show _ ≤ _; unfold maxLen; omega
            have HR2q : Hid ((0 + nb) * 16 ≤ 140737488355328) := by show _ ≤ _; omega
            have HR3q : Hid (0 + nb + 1 ≤ maxLen) := by show _ ≤ _; unfold maxLen; omega
            have HR4q : Hid ((0 + nb + 1) * 16 ≤ 140737488355328) := by show _ ≤ _; omega
            clear hby hbxy
            go_upto_if 53 with fail
            go_cut [8] (fun v8 wx => ∃ a8 c8, v8 = .slice a8 B.length c8 ∧ InC (fun _ => True) wx (.s B.length 1 (strsC B)) (.slice a8 B.length c8) ∧ (a8 = none → B.length = 0 ∧ c8 = 0) ∧ Below wy.heap.size wy wx)
            case first =>
              cases rb with
              | false =>
                have HE : Hid (B = bd) := by show _ = _; rw [← HBE.out]; rfl
                go_wp2_with fail
                go_meet
                have h3 := HIN2.out _ (Below.refl _ _)
                have h4 := HNIL'.out
                refine ⟨ab, cb, by rw [HE.out, HNB.out], ?_, ?_, Below.refl _ _⟩
                · rw [HE.out]; rw [HNB.out] at h3 ⊢; exact h3
                · rw [HE.out, HNB.out]; exact h4
              | true =>
                have HE : Hid (B = bd ++ [s]) := by show _ = _; rw [← HBE.out]; rfl
                go_upto_region 8 with fail
                go_region_law (first
            | (refine step_append_any rfl _ _ 53 rfl wy.heap.size 9 i0 (.string ⟨#[]⟩) 1 16 Try.underlying53 hi0 hy0 hy1 hy2 rfl (by decide) _ 0 [] rfl (by first | exact (World.ownsRow_made wy #[] 0 (Nat.le_refl _) (by decide) rfl).drew | exact ((World.ownsRow_made wy #[] 0 (Nat.le_refl _) (by decide) rfl).alloc _).drew | exact (show (((wy.alloc (.cells #[.string z] 9)).alloc (.cells #[] 9)).drew).ownsRow wy.heap.size 9 1 (.slice (some ⟨wy.heap.size + 1, 0, none⟩) 0 0) 0 [] by have h := (World.ownsRow_made (base := wy.heap.size) (e := 9) (size := 1) (wy.alloc (.cells #[.string z] 9)) #[] 0 (by simp) (by decide) rfl).drew; rw [World.size_alloc] at h; exact h)) ab nb cb (bd.map strV) rfl (fun e => (HNIL'.out e).1) HLS2.out (strs_newsF (HIN2.out _ (by repeat (first | with_reducible exact Below.refl _ _ | with_reducible exact HBa.out | with_reducible exact HBb.out | with_reducible refine Below.drew ?_ | with_reducible refine below_alloc ?_ (Nat.le_refl _) _)))) (strV_oneF _) HR1q.out HR2q.out (by simp; try omega) ?_; intro v9 w9 hown9 hgr9; have HBa := Lib.hid (show Below wy.heap.size wy w9 from Below.grown (by repeat (first | with_reducible exact Below.refl _ _ | with_reducible exact HBa.out | with_reducible exact HBb.out | with_reducible refine Below.drew ?_ | with_reducible refine below_alloc ?_ (Nat.le_refl _) _)) hgr9 (by simp; try omega) (by rintro q hq; cases hq; simp)); have bx9 := HBY.out.below HBa.out; obtain ⟨_, _, _, _, _, _⟩ := six_cells bx9; have bl9 := bx9.lt)
            | (refine step_append_any rfl _ _ 53 rfl wy.heap.size 9 i0 (.string ⟨#[]⟩) 1 16 Try.underlying53 hi0 hy0 hy1 hy2 rfl (by decide) v9 (0 + nb) ([] ++ bd.map strV) rfl (by first | exact hown9 | exact hown9.alloc _) (some _) 1 1 [.string z] rfl (by intro e; cases e) rfl (by first | exact nz1 hgr9 | exact nz2 hgr9 | exact nz3) (by simp [Value.oneCell']) HR3q.out HR4q.out (by have := HBa.out.size; simp; try omega) ?_; intro v10 w10 hown10 hgr10; have HBb := Lib.hid (show Below wy.heap.size wy w10 from Below.grown (by repeat (first | with_reducible exact Below.refl _ _ | with_reducible exact HBa.out | with_reducible exact HBb.out | with_reducible refine Below.drew ?_ | with_reducible refine below_alloc ?_ (Nat.le_refl _) _)) hgr10 (by have := HBa.out.size; simp; try omega) (fun q hq => (ownsRow_lo hown9 q hq).1))))
                all_goals go_wp2_with fail
                all_goals go_meet
                all_goals (
                  obtain ⟨a0, c0, hv0, hi0', hn0⟩ := snoc_inc HZS.out (by simpa using hown10) HNB.out
                  have hle : B.length = nb + 1 := by rw [HE.out, List.length_append, HNB.out]; rfl
                  refine ⟨a0, c0, by rw [hle]; exact hv0, ?_, ?_, HBb.out⟩
                  · rw [hle, HE.out]; exact hi0'
                  · rw [hle]; exact hn0)
            case rest =>
              obtain ⟨wz, rfl⟩ : ∃ wz, wz = wc := ⟨wc, rfl⟩
              obtain ⟨a8, c8, rfl, hi8, hn8, hb8⟩ := hcut
              have hbz := HBYW.out.trans (hb8.mono HBYW.out.size)
              have hbxz := HBX.out.below hbz
              obtain ⟨_, _, _, _, _, _⟩ := six_cells hbxz
              have hblz := hbxz.lt
              have hK9 := (HK.out.under HGW.out).under hbz
              rw [← HM.out] at hK9
              obtain ⟨g, off, us, rfl, hg, hxv, hc⟩ := hK9.elem exC_len HXX.out
              obtain ⟨z0, z1, z2, z3, z4, z5, z6, z7, z8, z9, hz9, _⟩ := hxv.exs
              obtain rfl := agg_inj hz9
              obtain ⟨zt, hzt⟩ : ∃ zt, strB z3 = zt := ⟨_, rfl⟩
              have q0 := hc 0 _ rfl
              have q1 := hc 1 _ rfl
              have q2 := hc 2 _ rfl
              have q3 := hc 3 _ rfl
              have q4 := hc 4 _ rfl
              have q5 := hc 5 _ rfl
              rw [← Nat.add_assoc] at q0 q1 q2 q3 q4 q5
              rw [Nat.add_zero] at q0
              rw [hzt] at q2 hxv
              have T1 : ∀ W, Sem.run Try.prog (Instr.indexAt 40 (.slice (some ⟨g, off, none⟩) m c) (.int .i64 (i : Int))) W = .ok (.pointer (some ⟨g, off + i * 6, none⟩)) W := fun W => by go_simp
              have HCL := Lib.hid (HFIN.out wz a8 c8 _ _ hbz hxv hi8 hn8)
              obtain ⟨lB, hlB⟩ : ∃ lB, B.length = lB := ⟨_, rfl⟩
              obtain ⟨ly, hly⟩ : ∃ ly, y1.length = ly := ⟨_, rfl⟩
              rw [hlB] at HCL ⊢
              rw [hly] at HCL
              have HLY := Lib.hid hly
              have HBZ := Lib.hid (HB.out.trans (hbz.mono HB.out.size))
              clear hi8 hn8 hb8 hbz hbxz hxv hc hzt hlB hly HFIN
              go_wp2_with (go_at_call 73; (with_reducible refine (HCL.out).mono ?_); go_loud (rintro e w9 ⟨a9, c9, rfl, h9, n9, hb9⟩; have HI9 := Lib.hid h9; have HN9 := Lib.hid n9; have HB9 := Lib.hid (HBZ.out.trans (hb9.mono HBZ.out.size)); clear h9 n9 hb9))
              have HL9 : Hid (y1.length + Ex.nns (kids.drop (i + 1)) + Al.nns alts ≤ TO) := by show _ ≤ _; have := HYL.out; have := HL.out; have := HND.out; omega
              go_roundw
              case rel => exact ⟨i + 1, ly, y1, a9, c9, by omega, by go_num, rfl, HLY, HI9, HN9, HRN, HL9, HB9⟩
              case measure => simp [intOf]; omega
        · have him : i = m := by omega
          have HRA : Hid (addAll oi (Al.occs bd (alts.drop 0)) = O) := by
            show _ = _
            have := HR.out
            rw [him, List.drop_of_length_le (by rw [HM.out]; exact Nat.le_refl _)] at this
            simpa [Ex.occs, addAll_nil] using this
          have HLA : Hid (oi.length + Al.nns (alts.drop 0) ≤ TO) := by show _ ≤ _; have := HL.out; simp; omega
          clear HR HL HK HX HF2 hGw him hbx
          go_wp2_with fail
          go_loopw [0, 9] (fun v0 jv wr => ∃ (j lo : Nat) (oi : List By) (ai : Option Addr) (ci : Nat), j ≤ m' ∧ jv = .int .i64 (j : Int) ∧ v0 = .slice ai lo ci ∧ Hid (oi.length = lo) ∧ Hid (InC (fun _ => True) wr (.s lo 1 (strsC oi)) (.slice ai lo ci)) ∧ Hid (ai = none → lo = 0 ∧ ci = 0) ∧ Hid (addAll oi (Al.occs bd (alts.drop j)) = O) ∧ Hid (oi.length + Al.nns (alts.drop j) ≤ TO) ∧ Hid (Below W0.heap.size W0 wr)) (fun _ jv _ => m' - (intOf jv).toNat)
          case atStart => exact ⟨0, lo, oi, ai, ci, Nat.zero_le _, rfl, rfl, HLO, HI, HNI, HRA, HLA, HB⟩
          case round =>
            clear HLO HI HNI HRA HLA HB
            obtain ⟨j, lo, oi, ai, ci, hj, rfl, rfl, HLO, HI, HNI, HR, HL, HB⟩ := hrel
            rename World => wr
            obtain ⟨wo, rfl⟩ : ∃ wo, wo = wr := ⟨wr, rfl⟩
            have hbx := HB0.out.below HB.out
            obtain ⟨_, _, _, _, _, _⟩ := six_cells hbx
            have hyl := hbx.lt
            have hGw := HBW.out.trans (HB.out.mono HBW.out.size)
            by_cases hlt : j < m'
            · obtain ⟨x, hx⟩ : ∃ x, alts[j]? = some x := ⟨_, List.getElem?_eq_getElem (by rw [HM'.out]; exact hlt)⟩
              have hxm := List.mem_of_getElem? hx
              have hnx := Al.nns_mem hxm
              have hnd := Al.nns_drop hx
              have hfx := HF3.out x hxm
              have hK9 := HK'.out.under hGw
              rw [← HM'.out] at hK9
              obtain ⟨g, off, us, rfl, hg, hxv, hc⟩ := hK9.elem alC_len hx
              obtain ⟨p1, s1, names, y⟩ := x
              simp only [Al.nn] at hnx hnd
              simp only [Al.fit] at hfx
              obtain ⟨hf1, hf2, hf3, hf4⟩ := hfx
              have hWX := HAX.out p1 s1 names y hxm
              have hnext := Al.occs_next (bd := bd) hx
              obtain ⟨z0, z1, z2, z3, a1, a2, a3, c1, m2, m3, c2, c3, hz9, hnv, hyv⟩ := al4F hxv
              obtain rfl := agg_inj hz9
              have hcc : ∀ (j' : Nat) (u : Value), ([.int .i64 p1, .string (strB s1), .slice a1 names.length c1, .int .i64 z0, .int .i64 z1, .string (strB z3), .int .i64 z2, .slice a2 m2 c2, .slice a3 m3 c3] : List Value)[j']? = some u → wo.cell? ⟨g, off + (j * 9 + j'), none⟩ = some u := fun j u hu => hc j u hu
              have q2 := hcc 2 _ rfl
              have q3 := hcc 3 _ rfl
              have q4 := hcc 4 _ rfl
              have q5 := hcc 5 _ rfl
              have q6 := hcc 6 _ rfl
              have q7 := hcc 7 _ rfl
              have q8 := hcc 8 _ rfl
              rw [← Nat.add_assoc] at q2 q3 q4 q5 q6 q7 q8
              have T1 : ∀ W, Sem.run Try.prog (Instr.indexAt 41 (.slice (some ⟨g, off, none⟩) m' c') (.int .i64 (j : Int))) W = .ok (.pointer (some ⟨g, off + j * 9, none⟩)) W := fun W => by go_simp
              obtain ⟨nl, hnl⟩ : ∃ nl, names.length = nl := ⟨_, rfl⟩
              obtain ⟨zt, hzt⟩ : ∃ zt, strB z3 = zt := ⟨_, rfl⟩
              obtain ⟨y1, hy1⟩ : ∃ y1, addAll oi (y.occ (bd ++ names)) = y1 := ⟨_, rfl⟩
              obtain ⟨ly, hly⟩ : ∃ ly, y1.length = ly := ⟨_, rfl⟩
              have hyl1 : y1.length ≤ oi.length + (y.nn + 1) := by rw [← hy1]; exact Nat.le_trans (out_le _ _) (by have := Ex.occ_len y (bd ++ names); omega)
              have HRN : Hid (addAll y1 (Al.occs bd (alts.drop (j + 1))) = O) := by
                show _ = _
                have h9 := HR.out
                rw [hnext, Ex.occ_eq y (bdEq_comm names bd), addAll_app, hy1] at h9
                exact h9
              have hlo9 := HLO.out
              have hlB : (bd ++ names).length = nb + nl := by rw [List.length_append, HNB.out, hnl]
              have hbnd9 : oi.length + (bd ++ names).length + 3 * y.nn + 3 ≤ 900000 := by have := HL.out; have := HTO.out; have := HH2.out; have := HNO.out; omega
              have HFIN : Hid (∀ (w' : World) (a8 : Option Addr) (c8 : Nat), Below wo.heap.size wo w' → InC (fun _ => True) w' (.s (nb + nl) 1 (strsC (bd ++ names))) (.slice a8 (nb + nl) c8) → (a8 = none → nb + nl = 0 ∧ c8 = 0) → Calls Try.prog 73 #[.slice ai lo ci, .agg #[.int .i64 z0, .int .i64 z1, .string zt, .int .i64 z2, .slice a2 m2 c2, .slice a3 m3 c3], .slice a8 (nb + nl) c8] w' fun e w'' => ∃ a' c', e = .returned (.slice a' ly c') ∧ InC (fun _ => True) w'' (.s ly 1 (strsC y1)) (.slice a' ly c') ∧ (a' = none → ly = 0 ∧ c' = 0) ∧ Below w'.heap.size w' w'') := fun w' a8 c8 hw hb8 hn8 => by
                have h := hWX oi (bd ++ names) ai a8 ci c8 _ _ w' hf4 (hyv.under hw) (by rw [hlo9]; exact HI.out.under hw) (by rw [hlo9]; exact HNI.out) (by rw [hlB]; exact hb8) (by rw [hlB]; exact hn8) hbnd9
                rw [hy1, hly, hlo9, hlB, hzt] at h
                exact h
              have HNV : Hid (∀ w', Below wo.heap.size wo w' → InC (fun _ => True) w' (.s names.length 1 (strsC names)) (.slice a1 names.length c1)) := fun w' hw => (hnv.under hw).mono fun _ _ _ => trivial
              have HN1 : Hid (a1 = none → nl = 0) := fun e => by
                have h9 := (strs_aty hnv).2.2
                rcases h9 with h9 | ⟨b, off, h9, _⟩
                · rw [← hnl]; exact h9
                · rw [e] at h9; cases h9
              have HBDw : Hid (∀ w', Below wo.heap.size wo w' → InC (fun _ => True) w' (.s bd.length 1 (strsC bd)) (.slice ab nb cb)) := fun w' hw => by have := (HBD.out.under hGw).under hw; rw [HNB.out] at this ⊢; exact this
              have HLS3 : Hid ((bd.map strV).length = nb * 1) := by show _ = _; simp [HNB.out]
              have HLS4 : Hid ((names.map strV).length = nl * 1) := by show _ = _; simp [hnl]
              have hny9 : nb + nl ≤ 900000 := by omega
              have HP1 : Hid (0 + nb ≤ maxLen) := by show _ ≤ _; unfold maxLen; omega
              have HP2 : Hid ((0 + nb) * 16 ≤ 140737488355328) := by show _ ≤ _; omega
              have HP3 : Hid (0 + nb + nl ≤ maxLen) := by show _ ≤ _; unfold maxLen; omega
              have HP4 : Hid ((0 + nb + nl) * 16 ≤ 140737488355328) := by show _ ≤ _; omega
              rw [hnl] at q2 HNV
              rw [hzt] at q5
              have hS0 := hbx.cell 5
              have HK5 : Hid (∀ w', Below wo.heap.size wo w' → (Below wo.heap.size wo w' ∧ w'.cell? ⟨w.heap.size, 5, none⟩ = some (.slice (some ⟨g, off, none⟩) m' c') ∧ w'.cell? ⟨g, off + j * 9 + 2, none⟩ = some (.slice a1 nl c1) ∧ w'.cell? ⟨g, off + j * 9 + 3, none⟩ = some (.int .i64 z0) ∧ w'.cell? ⟨g, off + j * 9 + 3 + 1, none⟩ = some (.int .i64 z1) ∧ w'.cell? ⟨g, off + j * 9 + 3 + 2, none⟩ = some (.string zt) ∧ w'.cell? ⟨g, off + j * 9 + 3 + 3, none⟩ = some (.int .i64 z2) ∧ w'.cell? ⟨g, off + j * 9 + 3 + 4, none⟩ = some (.slice a2 m2 c2) ∧ w'.cell? ⟨g, off + j * 9 + 3 + 5, none⟩ = some (.slice a3 m3 c3))) := fun w' hb =>
                ⟨hb, six_belowF hb hyl hS0, six_belowF hb hg q2, six_belowF hb hg q3, six_belowF hb hg q4, six_belowF hb hg q5, six_belowF hb hg q6, six_belowF hb hg q7, six_belowF hb hg q8⟩
              have HND := Lib.hid hnd
              have HYL := Lib.hid hyl1
              have HNL := Lib.hid hnl
              have HLY := Lib.hid hly
              clear hcc hc hxv hx hxm hnx hnd hnext hWX hnv hyv hf1 hf2 hf3 hf4 hzt hy1 hnl hyl1 hGw hbx hlB hbnd9 hlo9 hly hny9 hS0 q2 q3 q4 q5 q6 q7 q8
              go_upto_region 13 with fail
              go_region_held3 (fun w' => Below wo.heap.size wo w' ∧ w'.cell? ⟨w.heap.size, 5, none⟩ = some (.slice (some ⟨g, off, none⟩) m' c') ∧ w'.cell? ⟨g, off + j * 9 + 2, none⟩ = some (.slice a1 nl c1) ∧ w'.cell? ⟨g, off + j * 9 + 3, none⟩ = some (.int .i64 z0) ∧ w'.cell? ⟨g, off + j * 9 + 3 + 1, none⟩ = some (.int .i64 z1) ∧ w'.cell? ⟨g, off + j * 9 + 3 + 2, none⟩ = some (.string zt) ∧ w'.cell? ⟨g, off + j * 9 + 3 + 3, none⟩ = some (.int .i64 z2) ∧ w'.cell? ⟨g, off + j * 9 + 3 + 4, none⟩ = some (.slice a2 m2 c2) ∧ w'.cell? ⟨g, off + j * 9 + 3 + 5, none⟩ = some (.slice a3 m3 c3))
                (first
                  | exact HK5.out _ HBc.out
                  | exact HK5.out _ HBb.out
                  | exact HK5.out _ HBa.out
                  | (with_reducible apply HK5.out; repeat (first | with_reducible exact Below.refl _ _ | with_reducible refine Below.drew ?_ | with_reducible refine below_alloc ?_ (Nat.le_refl _) _))
                  | (trace_state; fail))
                (first
                  | (refine step_append_any rfl _ _ 53 rfl wo.heap.size 9 i0 (.string ⟨#[]⟩) 1 16 Try.underlying53 hi0 hy0 hy1 hy2 rfl (by decide) _ 0 [] rfl ((World.ownsRow_made wo #[] 0 (Nat.le_refl _) (by decide) rfl).drew) ab nb cb (bd.map strV) rfl (fun e => (HNIL'.out e).1) HLS3.out (strs_newsF (HBDw.out _ (And.left (by assumption)))) (strV_oneF _) HP1.out HP2.out (by simp; try omega) ?_; intro v9 w9 hown9 hgr9; have HBa := Lib.hid (show Below wo.heap.size wo w9 from Below.grown ((below_alloc (Below.refl _ _) (Nat.le_refl _) _).drew) hgr9 (by simp; try omega) (by rintro q hq; cases hq; simp)))
                  | (refine step_append_any rfl _ _ 53 rfl wo.heap.size 9 i0 (.string ⟨#[]⟩) 1 16 Try.underlying53 hi0 hy0 hy1 hy2 rfl (by decide) v9 (0 + nb) ([] ++ bd.map strV) rfl hown9 a1 nl c1 (names.map strV) rfl HN1.out HLS4.out (strs_newsF (l := names) (by have h := HNV.out _ HBa.out; rw [HNL.out]; exact h)) (strV_oneF _) HP3.out HP4.out (by have := HBa.out.size; simp; try omega) ?_; intro v10 w10 hown10 hgr10; have HBb := Lib.hid (show Below wo.heap.size wo w10 from Below.grown HBa.out hgr10 (by have := HBa.out.size; simp; try omega) (fun q hq => (ownsRow_lo hown9 q hq).1)); obtain ⟨a10, c10, rfl, hi10, hn10⟩ := app_inc (l := bd ++ names) (n := nb + nl) (by have h := hown10; rw [Nat.zero_add] at h; rw [List.map_append]; exact h) (by rw [List.length_append, HNB.out, HNL.out]))
                  | (go_at_call 73; (with_reducible refine (HFIN.out _ _ _ HBb.out hi10 hn10).mono ?_); rintro e w11 ⟨a11, c11, rfl, hi11, hn11, hb11⟩; have HBc := Lib.hid (below_next HBb.out hb11 (Nat.le_refl _))))
              have HL9 : Hid (y1.length + Al.nns (alts.drop (j + 1)) ≤ TO) := by show _ ≤ _; have := HYL.out; have := HL.out; have := HND.out; omega
              all_goals go_wp2_with fail
              refine ⟨⟨j + 1, ly, y1, a11, c11, by omega, by go_num, rfl, HLY, Lib.hid hi11, Lib.hid hn11, HRN, HL9, Lib.hid (HB.out.trans (HBc.out.mono HB.out.size))⟩, ?_⟩
              simp [intOf]; omega
            · have hjm : j = m' := by omega
              have HE : Hid (oi = O) := by
                show _ = _
                have := HR.out
                rw [hjm, List.drop_of_length_le (by rw [HM'.out]; exact Nat.le_refl _)] at this
                simpa [Al.occs, addAll_nil] using this
              clear hjm
              go_wp2_with fail
              go_ret
              have h9 := HLO.out
              rw [HE.out] at h9
              refine ⟨ai, ci, by rw [h9]; rfl, ?_, ?_, HBW.out.trans (HB.out.mono HBW.out.size)⟩
              · have := HI.out
                rw [HE.out] at this
                rw [h9]; exact this
              · rw [h9]; exact HNI.out
theorem frx_all : ∀ (d : Nat) (x : Ex), x.deep ≤ d → FRX x
  | 0, .mk k p s n kids alts, h => by simp only [Ex.deep] at h; omega
  | d + 1, .mk k p s n kids alts, h => frx_step k p s n kids alts (fun x hx => frx_all d x (by have := Ex.deeps_mem hx; simp only [Ex.deep] at h; omega)) (fun p s names x hx => frx_all d x (by have h3 := Al.deeps_mem hx; simp only [Ex.deep] at h; simp only [Al.deep] at h3; omega))
theorem frx_any (x : Ex) : FRX x := frx_all x.deep x (Nat.le_refl _)
/-- The document's Free. -/
theorem r_Free {S : Nat → Prop} (x : Ex) (w : World) (u : Value) (hf : x.fit) (hu : IsV S w (exC x) u) (hnn : 3 * x.nn + 3 ≤ 900000) :
    Calls Try.prog 35 #[u] w fun e w' => ∃ a c, e = .returned (.slice a (freeL x).length c) ∧ InC (fun _ => True) w' (.s (freeL x).length 1 (strsC (freeL x))) (.slice a (freeL x).length c) ∧ (a = none → (freeL x).length = 0 ∧ c = 0) ∧ Below w.heap.size w w' := by
  have hn : ∀ w' : World, InC (fun _ => True) w' (.s ([] : List By).length 1 (strsC [])) (.slice none ([] : List By).length 0) := fun w' => .e _ _ _
  have h := frx_any x [] [] none none 0 0 S u
  have HF := Lib.hid (fun (w' : World) (hb : Below w.heap.size w w') => h w' hf (hu.under hb) (hn w') (fun _ => ⟨rfl, rfl⟩) (hn w') (fun _ => ⟨rfl, rfl⟩) (by simp; omega))
  obtain ⟨k1, k2, k3, k4, k5, k6, k7, k8, k9, k10, hk, _⟩ := hu.exs
  subst hk
  obtain ⟨z, hz⟩ : ∃ z, strB k4 = z := ⟨_, rfl⟩
  rw [hz] at HF
  have HFL : freeL x = addAll [] (x.occ []) := rfl
  rw [← HFL] at HF
  simp only [List.length_nil] at HF
  clear h hn hu
  go_enter Try.func35, Try.ntmps35
  go_wp2_with (go_at_call 73; (with_reducible refine (HF.out _ (by first | exact Below.refl _ _ | exact (Below.refl _ _).alloc (Nat.le_refl _) _)).mono ?_); go_loud (rintro e w9 ⟨a9, c9, rfl, h9, n9, hb9⟩))
  go_ret
  exact ⟨_, _, rfl, h9, n9, ((Below.refl _ _).alloc (Nat.le_refl _) _).trans (hb9.mono (by simp))⟩

end Go.Proofs.Ytgkeblpjmfdhkaa

namespace Go.Proofs.Ytgkeblpjmfdhkaa
open Go.RowKit Go.Maps
set_option linter.unusedVariables false
set_option linter.unusedSimpArgs false

def okF (nm FL : List By) (k : Nat) : Bool := decide (firstF nm (nm.getD k []) = some k ∧ nm.getD k [] ∈ FL)
def rowT (nm FL : List By) (k : Nat) : List Int := ((List.range k).filter (okF nm FL)).map fun n : Nat => (n : Int)
theorem rowT_succ (nm FL : List By) (k : Nat) : rowT nm FL (k + 1) = rowT nm FL k ++ (if okF nm FL k = true then [(k : Int)] else []) := by
  unfold rowT
  rw [List.range_succ, List.filter_append, List.map_append]
  congr 1
  by_cases h : okF nm FL k = true
  · simp [List.filter, h]
  · have : okF nm FL k = false := by simpa using h
    simp [List.filter, this]
theorem rowT_len (nm FL : List By) (k : Nat) : (rowT nm FL k).length ≤ k := by
  unfold rowT; rw [List.length_map]; exact Nat.le_trans (List.length_filter_le _ _) (by simp)
theorem firstF_at {nm : List By} {k : Nat} {s : By} (hk : nm[k]? = some s) : firstF nm s = some k ↔ ∀ q, q < k → nm[q]? ≠ some s := by
  unfold firstF
  obtain ⟨hk1, hk2⟩ := List.getElem?_eq_some_iff.1 hk
  rw [List.findIdx?_eq_some_iff_getElem]
  constructor
  · rintro ⟨h, h1, h2⟩ q hq e
    have := h2 q hq
    obtain ⟨e1, e2⟩ := List.getElem?_eq_some_iff.1 e
    rw [e2] at this
    simp at this
  · intro h
    refine ⟨hk1, by rw [hk2]; simp, fun j hj => ?_⟩
    have := h j hj
    rw [List.getElem?_eq_getElem (by omega)] at this
    simpa using this
theorem sorted_eq : ∀ (a b : List Int), a.Pairwise (· < ·) → b.Pairwise (· < ·) → (∀ x, x ∈ a ↔ x ∈ b) → a = b
  | [], [], _, _, _ => rfl
  | [], y :: b, _, _, h => by have := (h y).2 (by simp); simp at this
  | x :: a, [], _, _, h => by have := (h x).1 (by simp); simp at this
  | x :: a, y :: b, ha, hb, h => by
    rw [List.pairwise_cons] at ha hb
    have hxy : x = y := by
      have h1 := (h x).1 (by simp)
      have h2 := (h y).2 (by simp)
      rcases List.mem_cons.1 h1 with e | h1
      · exact e
      · rcases List.mem_cons.1 h2 with e | h2
        · exact e.symm
        · have := hb.1 x h1; have := ha.1 y h2; omega
    subst hxy
    congr 1
    refine sorted_eq a b ha.2 hb.2 fun z => ?_
    constructor
    · intro hz
      rcases List.mem_cons.1 ((h z).1 (List.mem_cons_of_mem _ hz)) with e | h1
      · have := ha.1 z hz; omega
      · exact h1
    · intro hz
      rcases List.mem_cons.1 ((h z).2 (List.mem_cons_of_mem _ hz)) with e | h1
      · have := hb.1 z hz; omega
      · exact h1
theorem firstF_name {nm : List By} {s : By} {i : Nat} (h : firstF nm s = some i) : nm[i]? = some s := by
  unfold firstF at h
  rw [List.findIdx?_eq_some_iff_getElem] at h
  obtain ⟨h1, h2, _⟩ := h
  rw [List.getElem?_eq_getElem h1]
  congr 1
  simpa using h2
theorem filterMap_nodup {nm : List By} : ∀ {FL : List By}, FL.Nodup → (FL.filterMap (firstF nm)).Nodup
  | [], _ => by simp
  | s :: FL, h => by
    rw [List.nodup_cons] at h
    rw [List.filterMap_cons]
    cases e : firstF nm s with
    | none => exact filterMap_nodup h.2
    | some i =>
      refine List.nodup_cons.2 ⟨fun hm => ?_, filterMap_nodup h.2⟩
      obtain ⟨t, ht, he⟩ := List.mem_filterMap.1 hm
      have h1 := firstF_name e
      have h2 := firstF_name he
      rw [h1] at h2
      obtain rfl := Option.some.inj h2
      exact h.1 ht
theorem rowT_sort (nm FL : List By) (hn : FL.Nodup) : rowT nm FL nm.length = sortI (FL.filterMap (firstF nm)) := by
  apply sorted_eq
  · unfold rowT
    rw [List.pairwise_map]
    refine (List.Pairwise.filter _ List.pairwise_lt_range).imp fun h => by omega
  · unfold sortI
    have h1 : ((FL.filterMap (firstF nm)).map fun n : Nat => (n : Int)).Nodup := by
      rw [List.Nodup, List.pairwise_map]
      exact (filterMap_nodup hn).imp fun h e => h (by omega)
    have h2 := List.pairwise_mergeSort (le := fun x y : Int => decide (x ≤ y)) (by intro a b c; simp; omega) (by intro a b; simp; omega) ((FL.filterMap (firstF nm)).map fun n : Nat => (n : Int))
    have h3 := (List.mergeSort_perm ((FL.filterMap (firstF nm)).map fun n : Nat => (n : Int)) fun x y : Int => decide (x ≤ y)).nodup_iff.2 h1
    exact (h2.and h3).imp fun ⟨a, b⟩ => by have := of_decide_eq_true a; omega
  · intro x
    unfold rowT sortI
    rw [List.mem_mergeSort]
    simp only [List.mem_map, List.mem_filter, List.mem_range, List.mem_filterMap, okF, decide_eq_true_eq]
    constructor
    · rintro ⟨n, ⟨_, h1, h2⟩, rfl⟩
      exact ⟨n, ⟨_, h2, h1⟩, rfl⟩
    · rintro ⟨n, ⟨s, h1, h2⟩, rfl⟩
      have h3 := firstF_name h2
      have h4 : nm.getD n [] = s := by simp [List.getD, h3]
      exact ⟨n, ⟨firstF_lt h2, by rw [h4]; exact h2, by rw [h4]; exact h1⟩, rfl⟩

/-- A row of rows that grows. -/
structure RSt (w wr : World) (v : Value) (k : Nat) (rows : List (List Int)) (vs : List Value) : Prop where
  own : wr.ownsRow w.heap.size 78 1 v k vs
  ins : ∀ (i : Nat) (r : List Int) (u : Value), rows[i]? = some r → vs[i]? = some u → InC (fun q => New w q ∧ some q ≠ v.ownBlock) wr (rowCl r) u
theorem RSt.below {w wr wx : World} {v : Value} {k : Nat} {rows : List (List Int)} {vs : List Value} (h : RSt w wr v k rows vs) (hb : Below wr.heap.size wr wx) : RSt w wx v k rows vs :=
  ⟨ownsRow_below h.own hb, fun i r u h1 h2 => (h.ins i r u h1 h2).under hb⟩
theorem RSt.put {w wr wx : World} {v u : Value} {k g cap : Nat} {rows : List (List Int)} {vs : List Value} {r : List Int} {o : Obj} (h : RSt w wr v k rows vs) (hr : rows[k]? = some r) (hv : InC (fun q => New w q ∧ some q ≠ v.ownBlock) wr (rowCl r) u)
    (hown : wx.ownsRow w.heap.size 78 1 (.slice (some ⟨g, 0, none⟩) (k + 1) cap) (k + 1) (vs ++ [u])) (hgr : (wr.alloc o).grownBy wx v.ownBlock) (hat : v.ownBlock = some g ∨ g = (wr.alloc o).heap.size) : RSt w wx (.slice (some ⟨g, 0, none⟩) (k + 1) cap) (k + 1) rows (vs ++ [u]) := by
  have hz := hgr.size
  rw [World.size_alloc] at hz
  have hag : ∀ {c : Cl} {x : Value}, InC (fun q => New w q ∧ some q ≠ v.ownBlock) wr c x → InC (fun q => New w q ∧ some q ≠ (Value.slice (some ⟨g, 0, none⟩) (k + 1) cap).ownBlock) wx c x := fun hc => hc.agree (fun b hb hlt => by
    refine ⟨⟨hb.1, fun e => ?_⟩, (hgr.block b (by rw [World.size_alloc]; omega) hb.2).trans (((Below.refl wr.heap.size wr).alloc (Nat.le_refl _) o).block b hlt)⟩
    have e2 : b = g := Option.some.inj e
    rcases hat with h1 | h1
    · exact hb.2 (by rw [h1, e2])
    · rw [World.size_alloc] at h1; omega) (by omega)
  have hl : vs.length = k := by have := h.own.1; omega
  refine ⟨hown, fun i r' u' h1 h2 => ?_⟩
  by_cases e : i < k
  · rw [List.getElem?_append_left (by omega)] at h2
    exact hag (h.ins i r' u' h1 h2)
  · rw [List.getElem?_append_right (by omega)] at h2
    have hi : i = k := by
      have := (List.getElem?_eq_some_iff.1 h2).1
      simp at this; omega
    subst hi
    rw [hl, Nat.sub_self] at h2
    obtain rfl := Option.some.inj h2
    rw [hr] at h1
    obtain rfl := Option.some.inj h1
    exact hag hv
theorem RSt.done {w wr : World} {v : Value} {rows : List (List Int)} {vs : List Value} {k : Nat} (h : RSt w wr v k rows vs) (hr : rows.length = k) : InC (New w) wr (.s rows.length 1 (rows.map rowCl)) v := by
  have hl : vs.length = k := by have := h.own.1; omega
  rw [hr]
  refine InC.of_owns h.own ⟨by simp [hr, hl], fun i c u h1 h2 => ?_⟩ (fun b hb => (ownsRow_lo h.own b hb).1) (by simp [hr])
  rw [List.getElem?_map] at h1
  cases hx : rows[i]? with
  | none => rw [hx] at h1; cases h1
  | some r =>
    rw [hx] at h1
    obtain rfl := Option.some.inj h1
    exact (h.ins i r u hx h2).mono fun _ _ q => q.1

set_option maxRecDepth 100000 in
set_option maxHeartbeats 16000000 in
theorem r_Graph {S : Nat → Prop} (w : World) (l : List Bd) (a : Option Addr) (m c : Nat) (hm : l.length = m) (hl : m ≤ 100000) (hfit : ∀ b ∈ l, b.s.length ≤ 1000000 ∧ b.body.fit ∧ 3 * b.body.nn + 3 ≤ 900000) (h0 : InC S w (.s l.length 8 (l.flatMap bdC)) (.slice a m c)) :
    Calls Try.prog 38 #[.slice a m c] w fun e w' => ∃ a' c', e = .returned (.slice a' m c') ∧ InC (New w) w' (.s (graphL l).length 1 ((graphL l).map rowCl)) (.slice a' m c') ∧ Below w.heap.size w w' := by
  obtain ⟨i0, hi0, hz0, hz1, hz2⟩ := info_parts Try.gIntInfo
  obtain ⟨j0, hj0, hy0, hy1, hy2⟩ := info_parts Try.gRowInfo
  have hv : InC (fun q => q < w.heap.size) w (.s l.length 8 (l.flatMap bdC)) (.slice a m c) := h0.mono fun q h1 _ => h1
  obtain ⟨nm, hnm⟩ : ∃ nm, l.map Bd.s = nm := ⟨_, rfl⟩
  have hnl : nm.length = m := by rw [← hnm]; simp [hm]
  obtain ⟨RS, hRS⟩ : ∃ RS, graphL l = RS := ⟨_, rfl⟩
  have HRL : Hid (RS.length = m) := by show _ = _; rw [← hRS]; simp [graphL, hm]
  rw [hRS]
  have HV := Lib.hid hv
  have HM := Lib.hid hm
  have HFIT := Lib.hid hfit
  have HNM := Lib.hid hnm
  have HNL := Lib.hid hnl
  have HRS := Lib.hid hRS
  clear hv h0 hm hfit hnm hnl hRS
  go_enter Try.func38, Try.ntmps38
  go_wp2_with fail
  go_loopw [3, 4] (fun vo iv wr => ∃ (i : Nat) (vs : List Value), i ≤ m ∧ iv = .int .i64 (i : Int) ∧ Hid (RSt w wr vo i RS vs) ∧ Hid (Below w.heap.size w wr)) (fun _ iv _ => m - (intOf iv).toNat)
  case atStart => exact ⟨0, [], Nat.zero_le _, rfl, Lib.hid ⟨World.ownsRow_nil _ _ _ _, fun i r u _ h => by simp at h⟩, Lib.hid (Below.refl _ _)⟩
  case round =>
    obtain ⟨i, vs, hi, rfl, HR, HB⟩ := hrel
    obtain ⟨wo, rfl⟩ : ∃ wo, wo = wr := ⟨wr, rfl⟩
    by_cases hlt : i < m
    · obtain ⟨x, hx⟩ : ∃ x, l[i]? = some x := ⟨_, List.getElem?_eq_getElem (by rw [HM.out]; exact hlt)⟩
      have hxm := List.mem_of_getElem? hx
      obtain ⟨hf1, hf2, hf3⟩ := HFIT.out x hxm
      obtain ⟨gx, ox, r, rfl, hgx, hrs, hrow, hbody⟩ := (HV.out.under HB.out).bind8 hx
      obtain ⟨ro, hro⟩ : ∃ ro, RS[i]? = some ro := ⟨_, List.getElem?_eq_getElem (by rw [HRL.out]; exact hlt)⟩
      obtain ⟨FL, hFL⟩ : ∃ FL, freeL x.body = FL := ⟨_, rfl⟩
      have hroe : ro = rowT nm FL m := by
        have h1 := hro
        rw [← HRS.out] at h1
        unfold graphL at h1
        rw [List.getElem?_map, hx, HNM.out] at h1
        have h2 : ro = sortI ((freeL x.body).filterMap (firstF nm)) := (Option.some.inj h1).symm
        rw [h2, hFL, ← HNL.out, rowT_sort nm FL (by rw [← hFL]; exact addAll_nodup _ _ List.nodup_nil)]
      have hFLl : FL.length ≤ 1000000 := by
        rw [← hFL]; refine Nat.le_trans (addAll_len _ _) ?_
        have := Ex.occ_len x.body []; simp; omega
      have HNC : Hid (∀ (j : Nat) (y : Bd), l[j]? = some y → gx < w.heap.size ∧ w.cell? ⟨gx, ox + j * 8, none⟩ = some (.string (strB y.s))) := fun j y hy => by
        obtain ⟨g', o', r', e, hg', hrs', hrow', _⟩ := HV.out.bind8 hy
        cases e
        obtain ⟨c0, _⟩ := hrow'
        rw [← hrs']
        exact ⟨hg', c0⟩
      have HF := Lib.hid (fun (w' : World) (hw : Below wo.heap.size wo w') => r_Free x.body w' _ hf2 (hbody.under hw) hf3)
      rw [hFL] at HF
      obtain ⟨xs, xp, xk, xq, xz, xn, xa1, xm1, xd1, xa2, xm2, xd2⟩ := r
      obtain ⟨c0, c1, c2, c3, c4, c5, c6, c7⟩ := hrow
      dsimp only [BRow.c1, BRow.c2, BRow.c3, BRow.c4, BRow.c5, BRow.c6, BRow.c7] at c0 c1 c2 c3 c4 c5 c6 c7 hbody HF
      have T1 : ∀ (k : Nat) (hk : k < m) (W : World), Sem.run Try.prog (Instr.indexAt 26 (.slice (some ⟨gx, ox, none⟩) m c) (.int .i64 (k : Int))) W = .ok (.pointer (some ⟨gx, ox + k * 8, none⟩)) W := fun k hk W => by go_simp
      have TI := T1 i hlt
      obtain ⟨nf, hnf⟩ : ∃ nf, FL.length = nf := ⟨_, rfl⟩
      rw [hnf] at HF
      have HNF := Lib.hid hnf
      have HRO := Lib.hid hro
      have HROE := Lib.hid hroe
      have HT1 := Lib.hid T1
      have HFLl := Lib.hid hFLl
      clear hx hxm hf1 hf2 hf3 hrs hbody hro hroe hFL hFLl hnf T1
      go_wp2_with (go_at_call 35; (with_reducible refine (HF.out _ (Below.refl _ _)).mono ?_); go_loud (rintro e W1 ⟨af, cf, rfl, h3, hn3, hb3⟩; have HI3 := Lib.hid h3; have HB3 := Lib.hid hb3; clear h3 hn3 hb3 HF))
      clear c0 c1 c2 c3 c4 c5 c6 c7 TI
      go_loopw [6, 7] (fun vt kv wr => ∃ (k n : Nat), k ≤ m ∧ kv = .int .i64 (k : Int) ∧ Hid ((rowT nm FL k).length = n) ∧ Hid (wr.ownsRow W1.heap.size 3 1 vt n ((rowT nm FL k).map (Value.int .i64))) ∧ Hid (Below W1.heap.size W1 wr)) (fun _ kv _ => m - (intOf kv).toNat)
      case atStart => exact ⟨0, 0, Nat.zero_le _, rfl, rfl, World.ownsRow_nil _ _ _ _, Below.refl _ _⟩
      case round =>
        obtain ⟨k, n, hk, rfl, HN, HW, HBk⟩ := hrel
        obtain ⟨wk, rfl⟩ : ∃ wk, wk = wr := ⟨wr, rfl⟩
        have HWB : Hid (Below w.heap.size w wk) := (HB.out.trans (HB3.out.mono HB.out.size)).trans (HBk.out.mono (Nat.le_trans HB.out.size HB3.out.size))
        by_cases hlk : k < m
        · obtain ⟨y, hy⟩ : ∃ y, l[k]? = some y := ⟨_, List.getElem?_eq_getElem (by rw [HM.out]; exact hlk)⟩
          obtain ⟨hgy, hcy⟩ := HNC.out k y hy
          obtain ⟨zk, hzk⟩ : ∃ zk, strB y.s = zk := ⟨_, rfl⟩
          rw [hzk] at hcy
          have hny : nm[k]? = some y.s := by rw [← HNM.out, List.getElem?_map, hy]; rfl
          have TK := HT1.out k hlk
          have HNY := Lib.hid hny
          have HZK := Lib.hid hzk
          have HCY := Lib.hid hcy
          clear hy hzk hny hcy
          go_wp2_with fail
          go_loopw [8, 9] (fun bv jv wr => ∃ (j : Nat) (b : Bool), j ≤ k ∧ jv = .int .i64 (j : Int) ∧ bv = .bool b ∧ Hid (b = true ↔ ∀ q, q < j → nm[q]? ≠ some y.s) ∧ Hid (Below wk.heap.size wk wr)) (fun _ jv _ => k - (intOf jv).toNat)
          case atStart => exact ⟨0, true, Nat.zero_le _, rfl, rfl, Lib.hid (by simp), Lib.hid (Below.refl _ _)⟩
          case round =>
            obtain ⟨j, b, hj, rfl, rfl, HBB, HBj⟩ := hrel
            rename World => wj
            have hbw := HWB.out.trans (HBj.out.mono HWB.out.size)
            by_cases hlj : j < k
            · obtain ⟨t, ht⟩ : ∃ t, l[j]? = some t := ⟨_, List.getElem?_eq_getElem (by rw [HM.out]; omega)⟩
              obtain ⟨hgt, hct⟩ := HNC.out j t ht
              have q0 := six_belowF hbw hgt hct
              have q1 := six_belowF hbw hgt HCY.out
              have TJ := HT1.out j (by omega)
              obtain ⟨zt, hzt⟩ : ∃ zt, strB t.s = zt := ⟨_, rfl⟩
              rw [hzt] at q0
              have hnt : nm[j]? = some t.s := by rw [← HNM.out, List.getElem?_map, ht]; rfl
              clear ht hct
              by_cases e : b = true ∧ t.s ≠ y.s
              · obtain ⟨rfl, e⟩ := e
                have e1 : (zt.toList == zk.toList) = false := by rw [← hzt, ← HZK.out]; exact strB_ne e
                have HB2 : Hid (true = true ↔ ∀ q, q < j + 1 → nm[q]? ≠ some y.s) := Lib.hid ⟨fun _ q hq => by
                  by_cases h1 : q < j
                  · exact HBB.out.1 rfl q h1
                  · have : q = j := by omega
                    subst this
                    rw [hnt]; intro h; exact e (Option.some.inj h), fun _ => rfl⟩
                clear e hnt hzt
                go_upto_region 14 with fail
                go_region_both
                go_wp2_with fail
                go_roundw
                case rel => exact ⟨j + 1, true, by omega, by go_num, rfl, HB2, Lib.hid HBj.out.drew⟩
                case measure => simp [intOf]; omega
              · have HB2 : Hid (false = true ↔ ∀ q, q < j + 1 → nm[q]? ≠ some y.s) := Lib.hid ⟨fun h => (by cases h), fun h => absurd ⟨HBB.out.2 fun q hq => h q (by omega), fun h1 => h j (by omega) (by rw [hnt, h1])⟩ e⟩
                cases b with
                | true =>
                  have e1 : (zt.toList == zk.toList) = true := by
                    have : t.s = y.s := Decidable.not_not.1 fun h => e ⟨rfl, h⟩
                    rw [← hzt, ← HZK.out, this]; simp
                  clear e hnt hzt
                  go_upto_region 14 with fail
                  go_region_both
                  go_wp2_with fail
                  go_roundw
                  case rel => exact ⟨j + 1, false, by omega, by go_num, rfl, HB2, Lib.hid HBj.out.drew⟩
                  case measure => simp [intOf]; omega
                | false =>
                  clear e hnt hzt
                  go_upto_region 14 with fail
                  go_region_both
                  go_wp2_with fail
                  go_roundw
                  case rel => exact ⟨j + 1, false, by omega, by go_num, rfl, HB2, Lib.hid HBj.out.drew⟩
                  case measure => simp [intOf]; omega
            · have hjk : j = k := by omega
              have hok : okF nm FL k = (b && decide (y.s ∈ FL)) := by
                unfold okF
                have h1 : nm.getD k [] = y.s := by simp [List.getD, HNY.out]
                rw [h1]
                have h2 := HBB.out
                rw [hjk, ← firstF_at HNY.out] at h2
                cases b with
                | true => simp [h2.1 rfl]
                | false => simp only [Bool.false_and]; exact decide_eq_false fun h => by have := h2.2 h.1; cases this
              have HOK := Lib.hid hok
              have q1 := six_belowF hbw hgy HCY.out
              have HBx : Hid (Below W1.heap.size W1 wj) := HBk.out.trans (HBj.out.mono HBk.out.size)
              have HWx : Hid (wj.ownsRow W1.heap.size 3 1 _ n ((rowT nm FL k).map (Value.int .i64))) := ownsRow_below HW.out HBj.out
              have hge : ¬ ((j : Int) < (k : Int)) := by omega
              have hrt := rowT_succ nm FL k
              rw [hok] at hrt
              clear hjk hok hbw
              have TK2 := HT1.out k hlk
              have HP : Hid (∀ (w' : World), Below W1.heap.size W1 w' → Calls Try.prog 70 #[.slice af nf cf, .string zk] w' fun e w'' => e = .returned (.int .i64 (placeI FL y.s)) ∧ ∃ n, w'' = w'.drewN n) := fun w' hw => by
                have h1 := HI3.out.under hw
                rw [← HNF.out] at h1
                have h2 := y_place (fun _ => True) FL y.s af cf w' h1 HFLl.out
                rw [HNF.out, HZK.out] at h2
                exact h2
              obtain ⟨pl, hpl⟩ : ∃ pl, placeI FL y.s = pl := ⟨_, rfl⟩
              have hpn := placeI_negF (vs := FL) (s := y.s)
              rw [hpl] at HP hpn
              cases b with
              | false =>
                have HR2 : Hid (rowT nm FL (k + 1) = rowT nm FL k) := by show _ = _; rw [hrt]; simp
                clear hrt hpn hpl HP
                go_wp2_with fail
                go_roundw
                case rel => exact ⟨k + 1, n, by omega, by go_num, by rw [HR2.out]; exact HN, by rw [HR2.out]; exact HWx, HBx⟩
                case measure => simp [intOf]; omega
              | true =>
                by_cases hin : y.s ∈ FL
                · have HR2 : Hid (rowT nm FL (k + 1) = rowT nm FL k ++ [(k : Int)]) := by show _ = _; rw [hrt]; simp [hin]
                  have e4 : (0 : Int) ≤ pl := by
                    have h9 : ¬ pl < 0 := fun q => hpn.1 q hin
                    omega
                  have e5 : decide ((0 : Int) ≤ pl) = true := decide_eq_true e4
                  have HLO := Lib.hid (ownsRow_lo HW.out)
                  obtain ⟨va, vc, rfl⟩ := own_shape HW.out
                  have hnk : n ≤ k := by rw [← HN.out]; exact rowT_len _ _ _
                  clear hrt hpn hpl hin e4
                  go_upto_region 16 with (go_at_call 70; (with_reducible refine (HP.out _ HBx.out).mono ?_); rintro e wp ⟨rfl, nz, hwp⟩; have HBp : Hid (Below wj.heap.size wj wp) := (by show Below _ _ _; rw [hwp]; exact below_drN (Below.refl _ _) nz); clear hwp)
                  have HWp : Hid (wp.ownsRow W1.heap.size 3 1 (.slice va n vc) n ((rowT nm FL k).map (Value.int .i64))) := ownsRow_below HWx.out HBp.out
                  have HBy : Hid (Below W1.heap.size W1 wp) := HBx.out.trans (HBp.out.mono HBx.out.size)
                  have hs8 := HBy.out.size
                  go_wp2_with (at_builtin; refine wpList_append_lies _ rfl _ _ 78 rfl W1.heap.size 3 i0 (.int .i64 0) 1 8 Try.underlying78 hi0 hz0 hz1 hz2 rfl (by decide) _ n ((rowT nm FL k).map (Value.int .i64)) rfl (HWp.out.alloc _) ⟨wp.heap.size, 0, none⟩ 1 1 [.int .i64 (k : Int)] rfl rfl (news_at (cs := [.int .i64 (k : Int)]) rfl) (by simp [Value.oneCell']) (by decide) ?c3 ?c4 ?c5 _ rfl ?_)
                  case c3 => unfold maxLen; omega
                  case c4 => omega
                  case c5 => simp; omega
                  intro g9 cap9 w9 hown9 hgrow hat hlt9
                  have HB9 : Hid (Below W1.heap.size W1 w9) := (HBy.out.alloc (by omega) _).grown hgrow (by simp; omega) fun q hq => (HLO.out q hq).1
                  have HN9 : Hid ((rowT nm FL (k + 1)).length = n + 1) := by show _ = _; rw [HR2.out, List.length_append, HN.out]; rfl
                  have HW9 : Hid (w9.ownsRow W1.heap.size 3 1 (.slice (some ⟨g9, 0, none⟩) (n + 1) cap9) (n + 1) ((rowT nm FL (k + 1)).map (Value.int .i64))) := by
                    show World.ownsRow _ _ _ _ _ _ _
                    rw [HR2.out, List.map_append]; exact hown9
                  clear hown9 hgrow hat hlt9 HW HWp HWx
                  go_wp2_with fail
                  go_roundw
                  case rel => exact ⟨k + 1, n + 1, by omega, by go_num, HN9, HW9, HB9⟩
                  case measure => simp [intOf]; omega
                · have HR2 : Hid (rowT nm FL (k + 1) = rowT nm FL k) := by show _ = _; rw [hrt]; simp [hin]
                  have e4 : pl < 0 := hpn.2 hin
                  have e5 : decide ((0 : Int) ≤ pl) = false := decide_eq_false (by omega)
                  clear hrt hpn hpl hin e4
                  go_wp2_with (go_at_call 70; (with_reducible refine (HP.out _ HBx.out).mono ?_); rintro e wp ⟨rfl, nz, hwp⟩; have HBp : Hid (Below wj.heap.size wj wp) := (by show Below _ _ _; rw [hwp]; exact below_drN (Below.refl _ _) nz); clear hwp)
                  have HWp := Lib.hid (ownsRow_below HWx.out HBp.out)
                  have HBy : Hid (Below W1.heap.size W1 wp) := HBx.out.trans (HBp.out.mono HBx.out.size)
                  go_roundw
                  case rel => exact ⟨k + 1, n, by omega, by go_num, by rw [HR2.out]; exact HN, by rw [HR2.out]; exact HWp, HBy⟩
                  case measure => simp [intOf]; omega
        · have hkm : k = m := by omega
          have HN9 : Hid (ro.length = n) := by show _ = _; rw [HROE.out, ← hkm]; exact HN.out
          have HW8 := HW.out
          rw [hkm, ← HROE.out] at HW8
          obtain ⟨va, vc, rfl⟩ := own_shape HW.out
          have hw1 : wo.heap.size ≤ W1.heap.size := HB3.out.size
          have hbo : Below wo.heap.size wo wk := HB3.out.trans (HBk.out.mono HB3.out.size)
          have HX := Lib.hid (HR.out.below hbo)
          have HLO := Lib.hid (ownsRow_lo HR.out.own)
          obtain ⟨ao, co, rfl⟩ := own_shape HR.out.own
          have hw0 := HB.out.size
          have HIN : Hid (InC (fun q => New w q ∧ some q ≠ (Value.slice ao i co).ownBlock) wk (rowCl ro) (.slice va n vc)) := by
            show InC _ _ _ _
            have h1 := InC.of_owns HW8 (intsC_ins (fun q => W1.heap.size ≤ q) _ ro) (fun q hq => (ownsRow_lo HW8 q hq).1) (by rw [intsC_len, HN9.out])
            unfold rowCl
            rw [HN9.out]
            exact h1.mono fun q _ hq => ⟨by unfold New; omega, fun e => by have := HLO.out q e.symm; omega⟩
          have hge : ¬ ((k : Int) < (m : Int)) := by omega
          have hs8 := HWB.out.size
          have hi9 : i ≤ m := hi
          clear hkm HW8 hbo
          go_wp2_with (at_builtin; refine wpList_append_lies _ rfl _ _ 73 rfl w.heap.size 78 j0 (.slice none 0 0) 1 24 Try.underlying73 hj0 hy0 hy1 hy2 rfl (by decide) _ i vs rfl (HX.out.own.alloc _) ⟨wk.heap.size, 0, none⟩ 1 1 [.slice va n vc] rfl rfl (news_at (cs := [.slice va n vc]) rfl) (by simp [Value.oneCell']) (by decide) ?c3 ?c4 ?c5 _ rfl ?_)
          case c3 => unfold maxLen; omega
          case c4 => omega
          case c5 => first | omega | (simp; omega)
          intro g9 cap9 w9 hown9 hgrow hat hlt9
          have HB9 : Hid (Below w.heap.size w w9) := (HWB.out.alloc (by omega) _).grown hgrow (by simp; omega) fun q hq => (HLO.out q hq).1
          have HX9 := Lib.hid (HX.out.put HRO.out HIN.out hown9 hgrow (by rw [World.size_alloc]; exact hat))
          clear hown9 hgrow hat hlt9
          go_wp2_with fail
          go_roundw
          case rel => exact ⟨i + 1, _, by omega, by go_num, HX9, HB9⟩
          case measure => simp [intOf]; omega
    · have him : i = m := by omega
      have HE : Hid (InC (New w) wo (.s RS.length 1 (RS.map rowCl)) _) := HR.out.done (by rw [HRL.out, him])
      obtain ⟨ao, co, rfl⟩ := own_shape HR.out.own
      have hge : ¬ ((i : Int) < (m : Int)) := by omega
      have HIM := Lib.hid him
      clear him
      go_wp2_with fail
      go_ret
      refine ⟨ao, co, by rw [HIM.out]; rfl, ?_, HB.out⟩
      have := HE.out
      rw [HIM.out] at this
      exact this

end Go.Proofs.Ytgkeblpjmfdhkaa

namespace Go.Proofs.Ytgkeblpjmfdhkaa
open Go.RowKit Go.Maps
set_option linter.unusedVariables false
set_option linter.unusedSimpArgs false

theorem ints_any (a b : Option Addr) (la lb ca cb : Nat) (xs ys : List Int) (w : World) {l1 l2 h1 h2 : Nat} (hx : Row l1 h1 w a la xs) (hy : Row l2 h2 w b lb ys) (hm : la ≤ 9223372036854775807) :
    Calls Try.prog 74 #[.slice a la ca, .slice b lb cb] w fun e w' => e = .returned (.bool (decide (xs = ys))) ∧ ∃ n, w' = w.drewN n := by
  obtain ⟨hlx, hx⟩ := hx
  obtain ⟨hly, hy⟩ := hy
  by_cases hne : la = lb
  · obtain rfl := hne
    rcases hx with h0 | ⟨bx, ox, rfl, _, hbx, hcx⟩
    · subst h0
      have : xs = [] := List.length_eq_zero_iff.1 hlx
      have : ys = [] := List.length_eq_zero_iff.1 hly
      subst xs ys
      go_enter Try.func74, Try.ntmps74
      go_wp2
      go_rounds 1
      go_ret
      exact ⟨rfl, 0, rfl⟩
    · rcases hy with h0 | ⟨by', oy, rfl, _, hby, hcy⟩
      · subst h0
        have : xs = [] := List.length_eq_zero_iff.1 hlx
        have : ys = [] := List.length_eq_zero_iff.1 hly
        subst xs ys
        go_enter Try.func74, Try.ntmps74
        go_wp2
        go_rounds 1
        go_ret
        exact ⟨rfl, 0, rfl⟩
      · have HX : Hid (∀ i, i < la → w.cell? ⟨bx, ox + i, none⟩ = some (.int .i64 (xs.getD i 0))) := hcx
        have HY : Hid (∀ i, i < la → w.cell? ⟨by', oy + i, none⟩ = some (.int .i64 (ys.getD i 0))) := hcy
        have HL : Hid (xs.length = la ∧ ys.length = la) := ⟨hlx, hly⟩
        clear hcx hcy hlx hly
        go_enter Try.func74, Try.ntmps74
        go_wp2
        go_loopw [5] (fun i wr => ∃ k n : Nat, k ≤ la ∧ i = .int .i64 k ∧ wr = w.drewN n ∧ Hid (xs.take k = ys.take k)) (fun i _ => la - (intOf i).toNat)
        case atStart => exact ⟨0, 0, Nat.zero_le _, rfl, rfl, by simp [Hid]⟩
        case round =>
          obtain ⟨k, n, hk, rfl, rfl, hp⟩ := hrel
          by_cases hlt : k < la
          · have c1 := HX.out k hlt
            have c2 := HY.out k hlt
            obtain ⟨x, hxk⟩ : ∃ x, xs.getD k 0 = x := ⟨_, rfl⟩
            obtain ⟨y, hyk⟩ : ∃ y, ys.getD k 0 = y := ⟨_, rfl⟩
            rw [hxk] at c1
            rw [hyk] at c2
            have HXk : Hid (xs.getD k 0 = x) := hxk
            have HYk : Hid (ys.getD k 0 = y) := hyk
            clear hxk hyk
            by_cases he : x = y
            · subst he
              go_wp2
              go_quiet (fail)
              go_wp2
              go_roundw
              case rel => exact ⟨k + 1, _, by omega, by go_num, rfl, take_succ_eq (by rw [HL.out.1]; exact hlt) (by rw [HL.out.2]; exact hlt) hp.out (HXk.out.trans HYk.out.symm)⟩
              case measure => simp [intOf]; omega
            · go_wp2
              go_quiet (fail)
              go_wp2
              go_ret
              refine ⟨?_, _, World.drewN_drewN _ _ _⟩
              have : xs ≠ ys := by
                rintro rfl
                exact he (HXk.out.symm.trans HYk.out)
              simp [this]
          · go_wp2
            go_ret
            refine ⟨?_, _, rfl⟩
            obtain rfl : k = la := by omega
            have := hp.out
            rw [List.take_of_length_le (by have := HL.out.1; omega), List.take_of_length_le (by have := HL.out.2; omega)] at this
            simp [this]
  · have hn : xs ≠ ys := by rintro rfl; omega
    have hni : ((la : Int) == (lb : Int)) = false := by simp; omega
    clear hlx hly hx hy
    go_enter Try.func74, Try.ntmps74
    go_wp2
    go_ret
    exact ⟨by simp [hn], 0, rfl⟩
theorem intsRow {S : Nat → Prop} {w : World} {r : List Int} {a : Option Addr} {n c : Nat} (h : InC S w (rowCl r) (.slice a n c)) : n = r.length ∧ Row 0 w.heap.size w a n r := by
  obtain ⟨h1, h2⟩ := h.at_
  refine ⟨h1, h1.symm, ?_⟩
  rcases h2 with h0 | ⟨b, off, us, rfl, _, hb, hi, hc⟩
  · left; omega
  · right
    refine ⟨b, off, rfl, Nat.zero_le _, hb, fun i hi2 => ?_⟩
    have hir : i < r.length := by omega
    have hx : r[i]? = some (r.getD i 0) := by simp [List.getD, List.getElem?_eq_getElem hir]
    have hcl : (intsC r)[i]? = some (iC (r.getD i 0)) := by unfold intsC; rw [List.getElem?_map, hx]; rfl
    obtain ⟨u, hu⟩ : ∃ u, us[i]? = some u := ⟨_, List.getElem?_eq_getElem (by rw [hi.1]; simp [intsC]; exact hir)⟩
    have hv := hi.2 i _ u hcl hu
    have e := hv.val
    rw [← e]
    exact hc i u hu
/-- Rows in memory. -/
theorem rowsAt {S : Nat → Prop} {w : World} {rows : List (List Int)} {a : Option Addr} {m c : Nat} (h : InC S w (.s rows.length 1 (rows.map rowCl)) (.slice a m c)) : m = rows.length ∧ ∀ (i : Nat) (r : List Int), rows[i]? = some r → ∃ b off ai ci, a = some ⟨b, off, none⟩ ∧ b < w.heap.size ∧ w.cell? ⟨b, off + i, none⟩ = some (.slice ai r.length ci) ∧ InC S w (rowCl r) (.slice ai r.length ci) := by
  obtain ⟨h1, h2⟩ := h.at_
  refine ⟨h1, fun i r hr => ?_⟩
  have hir := (List.getElem?_eq_some_iff.1 hr).1
  rcases h2 with h0 | ⟨b, off, us, rfl, _, hb, hi, hc⟩
  · omega
  · obtain ⟨u, hu⟩ : ∃ u, us[i]? = some u := ⟨_, List.getElem?_eq_getElem (by rw [hi.1]; simpa using hir)⟩
    have hv := hi.2 i (rowCl r) u (by rw [List.getElem?_map, hr]; rfl) hu
    obtain ⟨ai, ci, rfl, _⟩ := hv.slice
    exact ⟨b, off, ai, ci, rfl, hb, hc i _ hu, hv⟩

set_option maxRecDepth 100000 in
set_option maxHeartbeats 16000000 in
theorem r_Same {S S' : Nat → Prop} (w : World) (rows : List (List Int)) (a a' : Option Addr) (m c c' : Nat) (h : InC S w (.s rows.length 1 (rows.map rowCl)) (.slice a m c)) (h' : InC S' w (.s rows.length 1 (rows.map rowCl)) (.slice a' m c')) :
    Calls Try.prog 36 #[.slice a m c, .slice a' m c'] w fun e w' => e = .returned (.bool true) ∧ Below w.heap.size w w' := by
  have hLm := h.max_len
  obtain ⟨hm, HA⟩ := rowsAt h
  have HA' := (rowsAt h').2
  have HA := Lib.hid HA
  have HA' := Lib.hid HA'
  have HM := Lib.hid hm.symm
  have hL2 : m ≤ 9223372036854775807 := by rw [hm]; exact hLm
  clear h h' hm hLm
  go_enter Try.func36, Try.ntmps36
  go_wp2_with fail
  go_loopw [5] (fun iv wr => ∃ i : Nat, i ≤ m ∧ iv = .int .i64 (i : Int) ∧ Hid (Below w.heap.size w wr)) (fun iv _ => m - (intOf iv).toNat)
  case atStart => exact ⟨0, Nat.zero_le _, rfl, Lib.hid (Below.refl _ _)⟩
  case round =>
    obtain ⟨i, hi, rfl, HB⟩ := hrel
    by_cases hlt : i < m
    · obtain ⟨r, hr⟩ : ∃ r, rows[i]? = some r := ⟨_, List.getElem?_eq_getElem (by rw [HM.out]; exact hlt)⟩
      obtain ⟨b, off, ai, ci, rfl, hb, hc, hI⟩ := HA.out i r hr
      obtain ⟨b', off', ai', ci', rfl, hb', hc', hI'⟩ := HA'.out i r hr
      have q1 := (HB.out.cell (p := ⟨b, off + i, none⟩) hb).trans hc
      have q2 := (HB.out.cell (p := ⟨b', off' + i, none⟩) hb').trans hc'
      obtain ⟨n, hn⟩ : ∃ n, r.length = n := ⟨_, rfl⟩
      have hnl : n ≤ 9223372036854775807 := by rw [← hn]; exact hI.max_len
      have hI2 := hI.under HB.out
      have hI2' := hI'.under HB.out
      have HII : Hid (∀ (w' : World), Below wr.heap.size wr w' → Calls Try.prog 74 #[.slice ai n ci, .slice ai' n ci'] w' fun e w'' => e = .returned (.bool true) ∧ Below w'.heap.size w' w'') := fun w' hw => by
        have h1 := (intsRow (hI2.under hw)).2
        have h2 := (intsRow (hI2'.under hw)).2
        rw [hn] at h1 h2
        refine (ints_any ai ai' n n ci ci' r r w' h1 h2 hnl).mono ?_
        rintro e w2 ⟨rfl, k, rfl⟩
        exact ⟨by simp, below_drewN (Below.refl _ _) _⟩
      have T1 : ∀ W, Sem.run Try.prog (Instr.indexAt 73 (.slice (some ⟨b, off, none⟩) m c) (.int .i64 (i : Int))) W = .ok (.pointer (some ⟨b, off + i, none⟩)) W := fun W => by go_simp
      have T2 : ∀ W, Sem.run Try.prog (Instr.indexAt 73 (.slice (some ⟨b', off', none⟩) m c') (.int .i64 (i : Int))) W = .ok (.pointer (some ⟨b', off' + i, none⟩)) W := fun W => by go_simp
      rw [hn] at q1 q2
      clear hr hc hc' hI hI' hI2 hI2' hn
      go_upto_region 6 with fail
      go_region_held3 (fun w' => w'.cell? ⟨b, off + i, none⟩ = some (.slice ai n ci) ∧ w'.cell? ⟨b', off' + i, none⟩ = some (.slice ai' n ci'))
        (first
          | exact ⟨q1, q2⟩
          | exact ⟨(hb9.cell (p := ⟨b, off + i, none⟩) (Nat.lt_of_lt_of_le hb HB.out.size)).trans q1, (hb9.cell (p := ⟨b', off' + i, none⟩) (Nat.lt_of_lt_of_le hb' HB.out.size)).trans q2⟩)
        (first
          | (go_at_call 74; (with_reducible refine (HII.out _ (Below.refl _ _).drew).mono ?_); rintro e w9 ⟨rfl, hb8⟩; have hb9 : Below wr.heap.size wr w9 := (Below.refl wr.heap.size wr).drew.trans hb8))
      have HB9 : Hid (Below w.heap.size w w9) := HB.out.trans (hb9.mono HB.out.size)
      go_wp2_with fail
      go_roundw
      case rel => exact ⟨i + 1, by omega, by go_num, HB9⟩
      case measure => simp [intOf]; omega
    · have hge : ¬ ((i : Int) < (m : Int)) := by omega
      go_wp2_with fail
      go_ret
      exact ⟨rfl, HB.out⟩

end Go.Proofs.Ytgkeblpjmfdhkaa
