/- The document's SameExpr: one expression in two places is one. -/
import Derived.Test.YtccilgemfkdmkaaYtxt
import Derived.Test.YtccilgemfkdmkaaYsd
import Derived.Deep.CutRange
import Derived.Deep.DeepCutAuto
import Derived.Test.YtccilgemfkdmkaaZH
import Derived.Test.YtccilgemfkdmkaaZF
namespace Go.Proofs.Ytccilgemfkdmkaa
open Go.RowKit Go.Maps
set_option linter.unusedVariables false
set_option linter.unusedSimpArgs false

def Al.inner : Al → Ex
  | .mk _ _ _ b => b
def Al.names : Al → List By
  | .mk _ _ l _ => l
/-- An alternative, its names and its body. -/
theorem IsV.alp {S : Nat → Prop} {w : World} {v : Value} {x : Al} (h : IsV S w (alC x) v) : ∃ (e k q n : Int) (s1 s : By) (a1 a a' : Option Addr) (c1 m m' cp cp' : Nat), v = .agg #[.int .i64 e, .string (strB s1), .slice a1 x.names.length c1, .int .i64 k, .int .i64 q, .string (strB s), .int .i64 n, .slice a m cp, .slice a' m' cp'] ∧ InC S w (.s x.names.length 1 (strsC x.names)) (.slice a1 x.names.length c1) ∧ IsV S w (exC x.inner) (.agg #[.int .i64 k, .int .i64 q, .string (strB s), .int .i64 n, .slice a m cp, .slice a' m' cp']) := by
  obtain ⟨pp, s1, names, b⟩ := x
  obtain ⟨us, rfl, h⟩ := h
  unfold alC at h
  obtain ⟨u0, r0, rfl, l0⟩ := three_cons (n := (exC b).length + 2) (by simpa using h.1)
  obtain ⟨u1, r1, rfl, l1⟩ := three_cons (n := (exC b).length + 1) l0
  obtain ⟨u2, r2, rfl, l2⟩ := three_cons (n := (exC b).length) l1
  obtain rfl := h.head.val
  obtain rfl := h.tail.head.val
  obtain ⟨a1, c1, rfl, _, _⟩ := h.tail.tail.head.slice
  have h2 : IsV S w (exC b) (.agg r2.toArray) := ⟨r2, rfl, h.tail.tail.tail⟩
  obtain ⟨k, q, n, s2, a2, a3, m2, m3, c2, c3, hv, _⟩ := h2.exs
  have e : r2 = [.int .i64 k, .int .i64 q, .string (strB s2), .int .i64 n, .slice a2 m2 c2, .slice a3 m3 c3] := by
    have := congrArg (fun v => v.cells.toList) hv
    simpa [Value.cells] using this
  subst e
  exact ⟨pp, k, q, n, s1, s2, a1, a2, a3, c1, m2, m3, c2, c3, rfl, h.tail.tail.head, h2⟩

def SamesE (x : Ex) : Prop := ∀ (S S' : Nat → Prop) (v v' : Value) (w : World), IsV S w (exC x) v → IsV S' w (exC x) v' → Calls Try.prog 29 #[v, v'] w fun e w' => e = .returned (.bool true) ∧ Below w.heap.size w w'

set_option maxRecDepth 100000 in
set_option maxHeartbeats 8000000 in
theorem same_ex_step (k p n : Int) (s : By) (kids : List Ex) (alts : List Al) (hX : ∀ x ∈ kids, SamesE x) (hA : ∀ x ∈ alts, SamesE x.inner) : SamesE (.mk k p s n kids alts) := by
  intro S S' v v' w hv hv'
  obtain ⟨a, cp, q, cq, rfl, hk, ha⟩ := hv.ex
  obtain ⟨a', cp', q', cq', rfl, hk', ha'⟩ := hv'.ex
  have hLm := hk.max_len
  have hLn := ha.max_len
  rw [exsC_eq] at hk hk'
  rw [alsC_eq] at ha ha'
  obtain ⟨z, hz⟩ : ∃ z, strB s = z := ⟨_, rfl⟩
  rw [hz]
  obtain ⟨m, hm⟩ : ∃ m, kids.length = m := ⟨_, rfl⟩
  obtain ⟨r, hr⟩ : ∃ r, alts.length = r := ⟨_, rfl⟩
  rw [hm] at hk hk' hLm
  rw [hr] at ha ha' hLn
  rw [hm, hr]
  have HM := Lib.hid hm
  have HR := Lib.hid hr
  have hb0 : Below w.heap.size w ((w.alloc (.cells #[.int .i64 k, .int .i64 p, .string z, .int .i64 n, .slice a m cp, .slice q r cq] 43)).alloc (.cells #[.int .i64 k, .int .i64 p, .string z, .int .i64 n, .slice a' m cp', .slice q' r cq'] 43)) := ((Below.refl _ w).alloc (Nat.le_refl _) _).alloc (by simp) _
  have HK := Lib.hid (hk.under hb0)
  have HK' := Lib.hid (hk'.under hb0)
  have HL := Lib.hid (ha.under hb0)
  have HL' := Lib.hid (ha'.under hb0)
  have HB0 := Lib.hid hb0
  have HX := Lib.hid hX
  have HA := Lib.hid hA
  have HBa := Lib.hid ((Box.new w 43 [.int .i64 k, .int .i64 p, .string z, .int .i64 n, .slice a m cp, .slice q r cq]).alloc (.cells #[.int .i64 k, .int .i64 p, .string z, .int .i64 n, .slice a' m cp', .slice q' r cq'] 43))
  have HBb := Lib.hid (Box.new (w.alloc (.cells #[.int .i64 k, .int .i64 p, .string z, .int .i64 n, .slice a m cp, .slice q r cq] 43)) 43 [.int .i64 k, .int .i64 p, .string z, .int .i64 n, .slice a' m cp', .slice q' r cq'])
  rw [World.size_alloc] at HBb
  clear hv hv' hk hk' ha ha' hX hA hm hr hz hb0
  go_enter Try.func29, Try.ntmps29
  go_wp2_with fail
  obtain ⟨W2, hW2⟩ : ∃ W2, (w.alloc (.cells #[.int .i64 k, .int .i64 p, .string z, .int .i64 n, .slice a m cp, .slice q r cq] 43)).alloc (.cells #[.int .i64 k, .int .i64 p, .string z, .int .i64 n, .slice a' m cp', .slice q' r cq'] 43) = W2 := ⟨_, rfl⟩
  rw [hW2] at HK HK' HL HL' HB0 HBa HBb
  try rw [hW2]
  clear hW2
  go_loopw [5] (fun iv wr => ∃ i : Nat, i ≤ m ∧ iv = .int .i64 (i : Int) ∧ Hid (Below W2.heap.size W2 wr)) (fun iv _ => m - (intOf iv).toNat)
  case atStart => exact ⟨0, Nat.zero_le _, rfl, Below.refl _ _⟩
  case round =>
    obtain ⟨i, hi, rfl, HB⟩ := hrel
    have hBa := HBa.out.below HB.out
    have hBb := HBb.out.below HB.out
    obtain ⟨_, _, _, _, _, _⟩ := six_cells hBa
    obtain ⟨_, _, _, _, _, _⟩ := six_cells hBb
    have hla := hBa.lt
    have hlb := hBb.lt
    clear hBa hBb
    by_cases hlt : i < m
    · obtain ⟨x, hx⟩ : ∃ x, kids[i]? = some x := ⟨_, List.getElem?_eq_getElem (by rw [HM.out]; exact hlt)⟩
      have hxm := List.mem_of_getElem? hx
      have hk1 := HK.out
      have hk2 := HK'.out
      rw [← HM.out] at hk1 hk2
      obtain ⟨b, off, us, rfl, hb, hxv, hc⟩ := hk1.elem exC_len hx
      obtain ⟨b', off', us', rfl, hb', hxv', hc'⟩ := hk2.elem exC_len hx
      obtain ⟨z0, z1, z2, z3, z4, z5, z6, z7, z8, z9, hz9, _⟩ := hxv.exs
      obtain rfl := agg_inj hz9
      obtain ⟨y0, y1, y2, y3, y4, y5, y6, y7, y8, y9, hy9, _⟩ := hxv'.exs
      obtain rfl := agg_inj hy9
      have hbw : b < wr.heap.size := by have := HB.out.size; omega
      have hbw' : b' < wr.heap.size := by have := HB.out.size; omega
      have hcc : ∀ (j : Nat) (u : Value), ([.int .i64 z0, .int .i64 z1, .string (strB z3), .int .i64 z2, .slice z4 z6 z8, .slice z5 z7 z9] : List Value)[j]? = some u → wr.cell? ⟨b, off + (i * 6 + j), none⟩ = some u := fun j u hu => (HB.out.cell (p := ⟨b, off + (i * 6 + j), none⟩) hb).trans (hc j u hu)
      have hcc' : ∀ (j : Nat) (u : Value), ([.int .i64 y0, .int .i64 y1, .string (strB y3), .int .i64 y2, .slice y4 y6 y8, .slice y5 y7 y9] : List Value)[j]? = some u → wr.cell? ⟨b', off' + (i * 6 + j), none⟩ = some u := fun j u hu => (HB.out.cell (p := ⟨b', off' + (i * 6 + j), none⟩) hb').trans (hc' j u hu)
      have q0 := hcc 0 _ rfl
      have q1 := hcc 1 _ rfl
      have q2 := hcc 2 _ rfl
      have q3 := hcc 3 _ rfl
      have q4 := hcc 4 _ rfl
      have q5 := hcc 5 _ rfl
      have p0 := hcc' 0 _ rfl
      have p1 := hcc' 1 _ rfl
      have p2 := hcc' 2 _ rfl
      have p3 := hcc' 3 _ rfl
      have p4 := hcc' 4 _ rfl
      have p5 := hcc' 5 _ rfl
      rw [← Nat.add_assoc] at q0 q1 q2 q3 q4 q5 p0 p1 p2 p3 p4 p5
      rw [Nat.add_zero] at q0 p0
      have HC : Hid (∀ w', Below wr.heap.size wr w' → Calls Try.prog 29 #[.agg #[.int .i64 z0, .int .i64 z1, .string (strB z3), .int .i64 z2, .slice z4 z6 z8, .slice z5 z7 z9], .agg #[.int .i64 y0, .int .i64 y1, .string (strB y3), .int .i64 y2, .slice y4 y6 y8, .slice y5 y7 y9]] w' fun e w'' => e = .returned (.bool true) ∧ Below w'.heap.size w' w'') := fun w' hw' => by
        have h9 := HB.out.trans (hw'.mono HB.out.size)
        exact HX.out x hxm _ _ _ _ w' (hxv.under h9) (hxv'.under h9)
      clear hcc hcc' hc hc' hxv hxv' hx hxm hk1 hk2
      go_wp2_with fail
      go_region_with (go_at_call 29; (with_reducible refine (HC.out _ (Below.refl _ _).drew).mono ?_); rintro e1 wz ⟨rfl, hbz⟩; have HBZ := Lib.hid hbz; clear hbz)
      all_goals go_wp2_with fail
      all_goals exact ⟨⟨i + 1, by omega, by go_num, HB.out.drew.trans (HBZ.out.mono HB.out.size)⟩, by simp [intOf]; omega⟩
    · have him : i = m := by omega
      subst him
      go_wp2_with fail
      obtain ⟨w3, rfl⟩ : ∃ w3, w3 = wr := ⟨wr, rfl⟩
      go_loopw [6] (fun iv wr => ∃ j : Nat, j ≤ r ∧ iv = .int .i64 (j : Int) ∧ Hid (Below W2.heap.size W2 wr)) (fun iv _ => r - (intOf iv).toNat)
      case atStart => exact ⟨0, Nat.zero_le _, rfl, HB⟩
      case round =>
        rename World => wr
        clear HB
        obtain ⟨j, hj, rfl, HB⟩ := hrel
        have hBa := HBa.out.below HB.out
        have hBb := HBb.out.below HB.out
        obtain ⟨_, _, _, _, _, _⟩ := six_cells hBa
        obtain ⟨_, _, _, _, _, _⟩ := six_cells hBb
        have hla := hBa.lt
        have hlb := hBb.lt
        clear hBa hBb
        by_cases hlt : j < r
        · obtain ⟨x, hx⟩ : ∃ x, alts[j]? = some x := ⟨_, List.getElem?_eq_getElem (by rw [HR.out]; exact hlt)⟩
          have hxm := List.mem_of_getElem? hx
          have hk1 := HL.out
          have hk2 := HL'.out
          rw [← HR.out] at hk1 hk2
          obtain ⟨b, off, us, rfl, hb, hxv, hc⟩ := hk1.elem alC_len hx
          obtain ⟨b', off', us', rfl, hb', hxv', hc'⟩ := hk2.elem alC_len hx
          obtain ⟨e1, k1, q1, n1, s1, t1, a1, d1, h1, c1, f1, i1, g1, j1, hz9, hn1, hb1⟩ := hxv.alp
          obtain rfl := agg_inj hz9
          obtain ⟨e2, k2, q2, n2, s2, t2, a2, d2, h2, c2, f2, i2, g2, j2, hy9, hn2, hb2⟩ := hxv'.alp
          obtain rfl := agg_inj hy9
          have hes : e1 = e2 ∧ strB s1 = strB s2 := by
            obtain ⟨pp, ss, nn, bb⟩ := x
            unfold alC at hxv hxv'
            obtain ⟨ua, hua, ha⟩ := hxv
            obtain ⟨ub, hub, hb⟩ := hxv'
            obtain rfl := agg_inj hua
            obtain rfl := agg_inj hub
            have r1 := ha.head.val
            have r2 := hb.head.val
            have r3 := ha.tail.head.val
            have r4 := hb.tail.head.val
            simp at r1 r2 r3 r4
            exact ⟨r1.trans r2.symm, by rw [r3, r4]⟩
          obtain ⟨rfl, hss⟩ := hes
          obtain ⟨SX, hSX⟩ : ∃ SX, strB s1 = SX := ⟨_, rfl⟩
          rw [hSX] at hss
          have hcc : ∀ (o : Nat) (u : Value), ([.int .i64 e1, .string (strB s1), .slice a1 x.names.length c1, .int .i64 k1, .int .i64 q1, .string (strB t1), .int .i64 n1, .slice d1 f1 g1, .slice h1 i1 j1] : List Value)[o]? = some u → wr.cell? ⟨b, off + (j * 9 + o), none⟩ = some u := fun o u hu => (HB.out.cell (p := ⟨b, off + (j * 9 + o), none⟩) hb).trans (hc o u hu)
          have hcc' : ∀ (o : Nat) (u : Value), ([.int .i64 e1, .string (strB s2), .slice a2 x.names.length c2, .int .i64 k2, .int .i64 q2, .string (strB t2), .int .i64 n2, .slice d2 f2 g2, .slice h2 i2 j2] : List Value)[o]? = some u → wr.cell? ⟨b', off' + (j * 9 + o), none⟩ = some u := fun o u hu => (HB.out.cell (p := ⟨b', off' + (j * 9 + o), none⟩) hb').trans (hc' o u hu)
          rw [hSX] at hcc
          rw [← hss] at hcc'
          have ca0 := hcc 0 _ rfl
          have ca1 := hcc 1 _ rfl
          have ca2 := hcc 2 _ rfl
          have ca3 := hcc 3 _ rfl
          have ca4 := hcc 4 _ rfl
          have ca5 := hcc 5 _ rfl
          have ca6 := hcc 6 _ rfl
          have ca7 := hcc 7 _ rfl
          have ca8 := hcc 8 _ rfl
          have cb0 := hcc' 0 _ rfl
          have cb1 := hcc' 1 _ rfl
          have cb2 := hcc' 2 _ rfl
          have cb3 := hcc' 3 _ rfl
          have cb4 := hcc' 4 _ rfl
          have cb5 := hcc' 5 _ rfl
          have cb6 := hcc' 6 _ rfl
          have cb7 := hcc' 7 _ rfl
          have cb8 := hcc' 8 _ rfl
          rw [← Nat.add_assoc] at ca0 ca1 ca2 ca3 ca4 ca5 ca6 ca7 ca8 cb0 cb1 cb2 cb3 cb4 cb5 cb6 cb7 cb8
          rw [Nat.add_zero] at ca0 cb0
          have hbw : b < wr.heap.size := by have := HB.out.size; omega
          have hbw' : b' < wr.heap.size := by have := HB.out.size; omega
          have HT : Hid (∀ w', Below wr.heap.size wr w' → Calls Try.prog 31 #[.slice a1 x.names.length c1, .slice a2 x.names.length c2] w' fun e w'' => e = .returned (.bool true) ∧ Below w'.heap.size w' w'') := fun w' hw' => by
            have h9 := HB.out.trans (hw'.mono HB.out.size)
            exact same_texts x.names _ _ _ _ _ _ _ _ w' (hn1.under h9) (hn2.under h9)
          have HE : Hid (∀ w', Below wr.heap.size wr w' → Calls Try.prog 29 #[.agg #[.int .i64 k1, .int .i64 q1, .string (strB t1), .int .i64 n1, .slice d1 f1 g1, .slice h1 i1 j1], .agg #[.int .i64 k2, .int .i64 q2, .string (strB t2), .int .i64 n2, .slice d2 f2 g2, .slice h2 i2 j2]] w' fun e w'' => e = .returned (.bool true) ∧ Below w'.heap.size w' w'') := fun w' hw' => by
            have h9 := HB.out.trans (hw'.mono HB.out.size)
            exact HA.out x hxm _ _ _ _ w' (hb1.under h9) (hb2.under h9)
          obtain ⟨NL, hNL⟩ : ∃ NL, x.names.length = NL := ⟨_, rfl⟩
          rw [hNL] at ca2 cb2 HT
          clear hcc hcc' hc hc' hxv hxv' hx hxm hk1 hk2 hSX hss hn1 hn2 hb1 hb2 hNL
          go_wp2_with fail
          obtain ⟨wo, rfl⟩ : ∃ wo, wo = wr := ⟨wr, rfl⟩
          go_cut [7, 8] (fun b6 b7 wx => ∃ B1 B2 : Nat, b6 = .pointer (some ⟨B1, 0, none⟩) ∧ b7 = .pointer (some ⟨B2, 0, none⟩) ∧ Box wx B1 129 [.int .i64 e1, .string SX, .slice a1 NL c1, .int .i64 k1, .int .i64 q1, .string (strB t1), .int .i64 n1, .slice d1 f1 g1, .slice h1 i1 j1] ∧ Box wx B2 129 [.int .i64 e1, .string SX, .slice a2 NL c2, .int .i64 k2, .int .i64 q2, .string (strB t2), .int .i64 n2, .slice d2 f2 g2, .slice h2 i2 j2] ∧ Below wo.heap.size wo wx)
          case first =>
            go_region
            all_goals go_wp2_with fail
            all_goals go_meet
            all_goals first
              | exact ⟨wo.heap.size, wo.heap.size + 1, rfl, rfl, ((Box.new wo 129 [.int .i64 e1, .string SX, .slice a1 NL c1, .int .i64 k1, .int .i64 q1, .string (strB t1), .int .i64 n1, .slice d1 f1 g1, .slice h1 i1 j1]).alloc _).drew, box_two.drew, below_two _ _ _⟩
              | exact ⟨wo.heap.size + 1, wo.heap.size, rfl, rfl, box_two.drew, ((Box.new wo 129 [.int .i64 e1, .string SX, .slice a2 NL c2, .int .i64 k2, .int .i64 q2, .string (strB t2), .int .i64 n2, .slice d2 f2 g2, .slice h2 i2 j2]).alloc _).drew, below_two _ _ _⟩
          case rest =>
            obtain ⟨B1, B2, rfl, rfl, hx1, hx2, hb3⟩ := hcut
            obtain ⟨_, _, _, _, _, _, _, _, _⟩ := nine_cells hx1
            obtain ⟨_, _, _, _, _, _, _, _, _⟩ := nine_cells hx2
            have hl1 := hx1.lt
            have hl2 := hx2.lt
            have HX1 := Lib.hid hx1
            have HX2 := Lib.hid hx2
            have HB3 := Lib.hid hb3
            clear hx1 hx2 hb3 ca0 ca1 ca2 ca3 ca4 ca5 ca6 ca7 ca8 cb0 cb1 cb2 cb3 cb4 cb5 cb6 cb7 cb8
            go_wp2_with (first
              | (go_at_call 31; (with_reducible refine (HT.out _ HB3.out).mono ?_); rintro e3 wz ⟨rfl, hbz⟩; have hy1 := HX1.out.below hbz; have hy2 := HX2.out.below hbz; obtain ⟨_, _, _, _, _, _, _, _, _⟩ := nine_cells hy1; obtain ⟨_, _, _, _, _, _, _, _, _⟩ := nine_cells hy2; have hl3 := hy1.lt; have hl4 := hy2.lt; have HBZ := Lib.hid (HB3.out.trans (hbz.mono HB3.out.size)); clear hbz hy1 hy2)
              | (go_at_call 29; (with_reducible refine (HE.out _ HBZ.out).mono ?_); rintro e4 wy ⟨rfl, hby⟩; have HBY := Lib.hid (HBZ.out.trans (hby.mono HBZ.out.size)); clear hby))
            exact ⟨⟨j + 1, by omega, by go_num, HB.out.trans (HBY.out.mono HB.out.size)⟩, by simp [intOf]; omega⟩
        · have him : j = r := by omega
          subst him
          go_wp2_with fail
          go_ret
          exact ⟨rfl, HB0.out.trans (HB.out.mono HB0.out.size)⟩

/-- One expression in two places is the same. -/
theorem same_ex : ∀ (d : Nat) (x : Ex), x.deep ≤ d → SamesE x
  | 0, .mk k p n s kids alts, h => by simp only [Ex.deep] at h; omega
  | d + 1, .mk k p n s kids alts, h => same_ex_step k p s n kids alts (fun x hx => same_ex d x (by have := Ex.deeps_mem hx; simp only [Ex.deep] at h; omega)) (fun x hx => same_ex d x.inner (by have := Al.deeps_mem hx; obtain ⟨pp, ss, nn, b⟩ := x; simp only [Ex.deep, Al.deep, Al.inner] at *; omega))

end Go.Proofs.Ytccilgemfkdmkaa
