/- The document's SameDatas: declarations of data in two places are the same. -/
import Derived.Test.YtccilgemfkdmkaaYtxt
import Derived.Test.YtccilgemfkdmkaaZG
import Derived.StillTail
import Derived.StillTailTactics
import Derived.Deep.CutRange
import Derived.Deep.DeepCutAuto
namespace Go.Proofs.Ytccilgemfkdmkaa
open Go.RowKit Go.Maps
set_option linter.unusedVariables false
set_option linter.unusedSimpArgs false

/-- A declaration of data, its variables and its Cons. -/
theorem IsV.dtp {S : Nat → Prop} {w : World} {v : Value} {x : Dt} (h : IsV S w (dtC x) v) : ∃ (a1 a2 : Option Addr) (c1 c2 : Nat), v = .agg #[.string (strB x.s), .int .i64 x.p, .slice a1 x.vars.length c1, .slice a2 x.cons.length c2] ∧ InC S w (.s x.vars.length 1 (strsC x.vars)) (.slice a1 x.vars.length c1) ∧ InC S w (.s x.cons.length 3 (x.cons.flatMap cnC)) (.slice a2 x.cons.length c2) := by
  obtain ⟨us, rfl, h⟩ := h
  unfold dtC at h
  obtain ⟨u0, r0, rfl, l0⟩ := three_cons (n := 3) h.1
  obtain ⟨u1, r1, rfl, l1⟩ := three_cons (n := 2) l0
  obtain ⟨u2, r2, rfl, l2⟩ := three_cons (n := 1) l1
  obtain ⟨u3, r3, rfl, l3⟩ := three_cons (n := 0) l2
  obtain rfl := List.eq_nil_of_length_eq_zero l3
  obtain rfl := h.head.val
  obtain rfl := h.tail.head.val
  obtain ⟨a1, c1, rfl, _, _⟩ := h.tail.tail.head.slice
  obtain ⟨a2, c2, rfl, _, _⟩ := h.tail.tail.tail.head.slice
  exact ⟨a1, a2, c1, c2, rfl, h.tail.tail.head, h.tail.tail.tail.head⟩

theorem box_two {w : World} {o : Obj} {t : TypeId} {cs : List Value} : Box ((w.alloc o).alloc (.cells cs.toArray t)) (w.heap.size + 1) t cs := by
  have := Box.new (w.alloc o) t cs
  rwa [World.size_alloc] at this
theorem below_two (w : World) (o o' : Obj) : Below w.heap.size w ((w.alloc o).alloc o').drew := (((Below.refl _ w).alloc (Nat.le_refl _) _).alloc (by simp) _).drew

set_option maxRecDepth 100000 in
set_option maxHeartbeats 16000000 in
theorem same_datas (l : List Dt) (S S' : Nat → Prop) (a a' : Option Addr) (m m' c c' : Nat) (w : World) (hk : InC S w (.s l.length 4 (l.flatMap dtC)) (.slice a m c)) (hk' : InC S' w (.s l.length 4 (l.flatMap dtC)) (.slice a' m' c')) :
    Calls Try.prog 16 #[.slice a m c, .slice a' m' c'] w fun e w' => e = .returned (.bool true) ∧ Below w.heap.size w w' := by
  have hLm := hk.max_len
  have e1 := hk.at_.1
  have e2 := hk'.at_.1
  rw [← e2] at hLm
  obtain rfl : m' = m := by omega
  have HK := Lib.hid hk
  have HK' := Lib.hid hk'
  have HM := Lib.hid e2
  clear hk hk' e1 e2
  go_enter Try.func16, Try.ntmps16
  go_wp2_with fail
  go_loopw [5] (fun iv wr => ∃ i : Nat, i ≤ m' ∧ iv = .int .i64 (i : Int) ∧ Hid (Below w.heap.size w wr)) (fun iv _ => m' - (intOf iv).toNat)
  case atStart => exact ⟨0, Nat.zero_le _, rfl, Below.refl _ _⟩
  case round =>
    obtain ⟨i, hi, rfl, HB⟩ := hrel
    by_cases hlt : i < m'
    · obtain ⟨x, hx⟩ : ∃ x, l[i]? = some x := ⟨_, List.getElem?_eq_getElem (by rw [← HM.out]; exact hlt)⟩
      obtain ⟨b, off, us, rfl, hb, hxv, hc⟩ := HK.out.elem dtC_len hx
      obtain ⟨b', off', us', rfl, hb', hxv', hc'⟩ := HK'.out.elem dtC_len hx
      obtain ⟨a1, a2, c1, c2, hz9, hn1, ho1⟩ := hxv.dtp
      obtain rfl := agg_inj hz9
      obtain ⟨a3, a4, c3, c4, hy9, hn2, ho2⟩ := hxv'.dtp
      obtain rfl := agg_inj hy9
      have hbw : b < wr.heap.size := by have := HB.out.size; omega
      have hbw' : b' < wr.heap.size := by have := HB.out.size; omega
      have hcc : ∀ (j : Nat) (u : Value), ([.string (strB x.s), .int .i64 x.p, .slice a1 x.vars.length c1, .slice a2 x.cons.length c2] : List Value)[j]? = some u → wr.cell? ⟨b, off + (i * 4 + j), none⟩ = some u := fun j u hu => (HB.out.cell (p := ⟨b, off + (i * 4 + j), none⟩) hb).trans (hc j u hu)
      have hcc' : ∀ (j : Nat) (u : Value), ([.string (strB x.s), .int .i64 x.p, .slice a3 x.vars.length c3, .slice a4 x.cons.length c4] : List Value)[j]? = some u → wr.cell? ⟨b', off' + (i * 4 + j), none⟩ = some u := fun j u hu => (HB.out.cell (p := ⟨b', off' + (i * 4 + j), none⟩) hb').trans (hc' j u hu)
      have q0 := hcc 0 _ rfl
      have q1 := hcc 1 _ rfl
      have q2 := hcc 2 _ rfl
      have q3 := hcc 3 _ rfl
      have p0 := hcc' 0 _ rfl
      have p1 := hcc' 1 _ rfl
      have p2 := hcc' 2 _ rfl
      have p3 := hcc' 3 _ rfl
      rw [← Nat.add_assoc] at q0 q1 q2 q3 p0 p1 p2 p3
      rw [Nat.add_zero] at q0 p0
      have HT : Hid (∀ w', Below wr.heap.size wr w' → Calls Try.prog 31 #[.slice a1 x.vars.length c1, .slice a3 x.vars.length c3] w' fun e w'' => e = .returned (.bool true) ∧ Below w'.heap.size w' w'') := fun w' hw' => by
        have h9 := HB.out.trans (hw'.mono HB.out.size)
        exact same_texts x.vars _ _ _ _ _ _ _ _ w' (hn1.under h9) (hn2.under h9)
      have HC1 : Hid (InC S wr (.s x.cons.length 3 (x.cons.flatMap cnC)) (.slice a2 x.cons.length c2)) := ho1.under HB.out
      have HC2 : Hid (InC S' wr (.s x.cons.length 3 (x.cons.flatMap cnC)) (.slice a4 x.cons.length c4)) := ho2.under HB.out
      have hcm := ho1.max_len
      obtain ⟨SX, hSX⟩ : ∃ SX, strB x.s = SX := ⟨_, rfl⟩
      obtain ⟨PX, hPX⟩ : ∃ PX, x.p = PX := ⟨_, rfl⟩
      obtain ⟨NV, hNV⟩ : ∃ NV, x.vars.length = NV := ⟨_, rfl⟩
      obtain ⟨L, hL⟩ : ∃ L, x.cons = L := ⟨_, rfl⟩
      rw [hL] at HC1 HC2 hcm q3 p3
      obtain ⟨NC, hNC⟩ : ∃ NC, L.length = NC := ⟨_, rfl⟩
      have HNC := Lib.hid hNC
      rw [hNC] at HC1 HC2 hcm q3 p3
      rw [hNV] at HT q2 p2
      rw [hSX] at q0 p0
      rw [hPX] at q1 p1
      clear hcc hcc' hc hc' hxv hxv' hx hn1 hn2 ho1 ho2 hSX hPX hNV hL hNC
      go_wp2_with fail
      obtain ⟨wo, rfl⟩ : ∃ wo, wo = wr := ⟨wr, rfl⟩
      go_cut [6, 7] (fun b6 b7 wx => ∃ B1 B2 : Nat, b6 = .pointer (some ⟨B1, 0, none⟩) ∧ b7 = .pointer (some ⟨B2, 0, none⟩) ∧ Box wx B1 56 [.string SX, .int .i64 PX, .slice a1 NV c1, .slice a2 NC c2] ∧ Box wx B2 56 [.string SX, .int .i64 PX, .slice a3 NV c3, .slice a4 NC c4] ∧ Below wo.heap.size wo wx)
      case first =>
        go_region
        all_goals go_wp2_with fail
        all_goals go_meet
        all_goals first
          | exact ⟨wo.heap.size, wo.heap.size + 1, rfl, rfl, ((Box.new wo 56 [.string SX, .int .i64 PX, .slice a1 NV c1, .slice a2 NC c2]).alloc _).drew, box_two.drew, below_two _ _ _⟩
          | exact ⟨wo.heap.size + 1, wo.heap.size, rfl, rfl, box_two.drew, ((Box.new wo 56 [.string SX, .int .i64 PX, .slice a3 NV c3, .slice a4 NC c4]).alloc _).drew, below_two _ _ _⟩
      case rest =>
        obtain ⟨B1, B2, rfl, rfl, hx1, hx2, hb3⟩ := hcut
        obtain ⟨_, _, _, _⟩ := four_cells hx1
        obtain ⟨_, _, _, _⟩ := four_cells hx2
        have hl1 := hx1.lt
        have hl2 := hx2.lt
        have HX1 := Lib.hid hx1
        have HX2 := Lib.hid hx2
        have HB3 := Lib.hid hb3
        clear hx1 hx2 hb3 q0 q1 q2 q3 p0 p1 p2 p3
        go_wp2_with (go_at_call 31; (with_reducible refine (HT.out _ HB3.out).mono ?_); rintro e3 wz ⟨rfl, hbz⟩; have hy1 := HX1.out.below hbz; have hy2 := HX2.out.below hbz; obtain ⟨_, _, _, _⟩ := four_cells hy1; obtain ⟨_, _, _, _⟩ := four_cells hy2; have hl3 := hy1.lt; have hl4 := hy2.lt; have HY1 := Lib.hid hy1; have HY2 := Lib.hid hy2; have HBZ := Lib.hid (HB3.out.trans (hbz.mono HB3.out.size)); clear hbz hy1 hy2 HX1 HX2)
        go_loopw [8] (fun jv wr => ∃ j : Nat, j ≤ NC ∧ jv = .int .i64 (j : Int) ∧ Hid (Below wz.heap.size wz wr)) (fun jv _ => NC - (intOf jv).toNat)
        case atStart => exact ⟨0, Nat.zero_le _, rfl, Below.refl _ _⟩
        case round =>
          rename World => wr
          obtain ⟨j, hj, rfl, HBQ⟩ := hrel
          have hy1 := HY1.out.below HBQ.out
          have hy2 := HY2.out.below HBQ.out
          obtain ⟨_, _, _, _⟩ := four_cells hy1
          obtain ⟨_, _, _, _⟩ := four_cells hy2
          have hl5 := hy1.lt
          have hl6 := hy2.lt
          by_cases hlt2 : j < NC
          · obtain ⟨y, hyy⟩ : ∃ y, L[j]? = some y := ⟨_, List.getElem?_eq_getElem (by rw [HNC.out]; exact hlt2)⟩
            have hk1 := HC1.out
            have hk2 := HC2.out
            rw [← HNC.out] at hk1 hk2
            obtain ⟨g, o, us, rfl, hg, hyv, hcy⟩ := hk1.elem cnC_len hyy
            obtain ⟨g', o', us', rfl, hg', hyv', hcy'⟩ := hk2.elem cnC_len hyy
            obtain ⟨d1, e1, hz9, hn1⟩ := hyv.cn
            obtain rfl := agg_inj hz9
            obtain ⟨d2, e2, hy9, hn2⟩ := hyv'.cn
            obtain rfl := agg_inj hy9
            have HBO : Hid (Below wo.heap.size wo wr) := HBZ.out.trans (HBQ.out.mono HBZ.out.size)
            have hgw : g < wr.heap.size := by have := HBO.out.size; omega
            have hgw' : g' < wr.heap.size := by have := HBO.out.size; omega
            have hcc : ∀ (k : Nat) (u : Value), ([.string (strB y.s), .int .i64 y.p, .slice d1 y.args.length e1] : List Value)[k]? = some u → wr.cell? ⟨g, o + (j * 3 + k), none⟩ = some u := fun k u hu => (HBO.out.cell (p := ⟨g, o + (j * 3 + k), none⟩) hg).trans (hcy k u hu)
            have hcc' : ∀ (k : Nat) (u : Value), ([.string (strB y.s), .int .i64 y.p, .slice d2 y.args.length e2] : List Value)[k]? = some u → wr.cell? ⟨g', o' + (j * 3 + k), none⟩ = some u := fun k u hu => (HBO.out.cell (p := ⟨g', o' + (j * 3 + k), none⟩) hg').trans (hcy' k u hu)
            have q0 := hcc 0 _ rfl
            have q1 := hcc 1 _ rfl
            have q2 := hcc 2 _ rfl
            have p0 := hcc' 0 _ rfl
            have p1 := hcc' 1 _ rfl
            have p2 := hcc' 2 _ rfl
            rw [← Nat.add_assoc] at q0 q1 q2 p0 p1 p2
            rw [Nat.add_zero] at q0 p0
            have HC : Hid (∀ w', Below wr.heap.size wr w' → Calls Try.prog 32 #[.slice d1 y.args.length e1, .slice d2 y.args.length e2] w' fun e w'' => e = .returned (.bool true) ∧ Below w'.heap.size w' w'') := fun w' hw' => by
              have h9 := HBO.out.trans (hw'.mono HBO.out.size)
              exact same_tys y.args (fun x _ => same_ty x.deep x (Nat.le_refl _)) _ _ _ _ _ _ _ _ w' (hn1.under h9) (hn2.under h9)
            obtain ⟨SY, hSY⟩ : ∃ SY, strB y.s = SY := ⟨_, rfl⟩
            obtain ⟨PY, hPY⟩ : ∃ PY, y.p = PY := ⟨_, rfl⟩
            obtain ⟨NA, hNA⟩ : ∃ NA, y.args.length = NA := ⟨_, rfl⟩
            rw [hNA] at HC q2 p2
            rw [hSY] at q0 p0
            rw [hPY] at q1 p1
            have T1 : ∀ W, Sem.run Try.prog (Instr.indexAt 54 (.slice (some ⟨g, o, none⟩) NC c2) (.int .i64 (j : Int))) W = .ok (.pointer (some ⟨g, o + j * 3, none⟩)) W := fun W => by go_simp
            have T2 : ∀ W, Sem.run Try.prog (Instr.indexAt 54 (.slice (some ⟨g', o', none⟩) NC c4) (.int .i64 (j : Int))) W = .ok (.pointer (some ⟨g', o' + j * 3, none⟩)) W := fun W => by go_simp
            clear hcc hcc' hcy hcy' hyv hyv' hyy hk1 hk2 hn1 hn2 hSY hPY hNA
            go_wp2_with fail
            have hbd0 : Below wr.heap.size wr wr.drew := (Below.refl _ wr).drew
            refine wp_region_still_tail 41 (by kernel_rfl) (by kernel_rfl) ?_
            change wpStill _ _ (World.drew _) (fun a' => wpList _ _ _ _ a' (World.drew _)) _ _
            generalize World.drew wr = WD at hbd0 ⊢
            have hz1 := hy1.below hbd0
            have hz2 := hy2.below hbd0
            obtain ⟨_, _, _, _⟩ := four_cells hz1
            obtain ⟨_, _, _, _⟩ := four_cells hz2
            have hl7 := hz1.lt
            have hl8 := hz2.lt
            have HBD := Lib.hid hbd0
            have u0 := (hbd0.cell (p := ⟨g, o + j * 3, none⟩) hgw).trans q0
            have u1 := (hbd0.cell (p := ⟨g, o + j * 3 + 1, none⟩) hgw).trans q1
            have u2 := (hbd0.cell (p := ⟨g, o + j * 3 + 2, none⟩) hgw).trans q2
            have v0 := (hbd0.cell (p := ⟨g', o' + j * 3, none⟩) hgw').trans p0
            have v1 := (hbd0.cell (p := ⟨g', o' + j * 3 + 1, none⟩) hgw').trans p1
            have v2 := (hbd0.cell (p := ⟨g', o' + j * 3 + 2, none⟩) hgw').trans p2
            clear hbd0 q0 q1 q2 p0 p1 p2 hy1 hy2 hz1 hz2
            simp only [List.take_succ_cons, List.take_zero, List.drop_succ_cons, List.drop_zero]
            repeat still_step
            refine wpStill_nil ?_
            go_wp2_with (go_at_call 32; (with_reducible refine (HC.out _ HBD.out).mono ?_); rintro e5 wt ⟨rfl, hbt⟩; have HBT := Lib.hid (HBD.out.trans (hbt.mono HBD.out.size)); clear hbt)
            exact ⟨⟨j + 1, by omega, by go_num, HBQ.out.trans (HBT.out.mono HBQ.out.size)⟩, by simp [intOf]; omega⟩
          · have hjm : j = NC := by omega
            subst hjm
            have HBO : Hid (Below wo.heap.size wo wr) := HBZ.out.trans (HBQ.out.mono HBZ.out.size)
            clear hy1 hy2
            go_wp2_with fail
            exact ⟨⟨i + 1, by omega, by go_num, HB.out.trans (HBO.out.mono HB.out.size)⟩, by simp [intOf]; omega⟩
    · have him : i = m' := by omega
      subst him
      go_wp2_with fail
      go_ret
      exact ⟨rfl, HB.out⟩

end Go.Proofs.Ytccilgemfkdmkaa
