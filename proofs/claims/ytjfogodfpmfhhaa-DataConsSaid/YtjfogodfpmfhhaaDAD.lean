/- Package data: names that are counted in a map; isNew, allNew. Package data: the shapes that types may have. Package data: newChecker, isPlace, mayNode, mayTypes, mayBegin, mayCon. Package data: mayTypes, mayBegin, mayCon. Package data: mayBegin, mayCon. Package data: Check. What the texts of DataWrong are; awake of the statements on data. Package data: Con. -/
import Derived.Test.YtjfogodfpmfhhaaZGD
import Derived.Test.YtjfogodfpmfhhaaYtxtD
import Derived.Test.YtjfogodfpmfhhaaZHD
import Derived.Test.YtjfogodfpmfhhaaYsdD
import Derived.Deep.RegionLaw
import Derived.Deep.CutRange
import Derived.Deep.DeepCutAuto
import Derived.Test.YtjfogodfpmfhhaaYAD
import Derived.Test.YtjfogodfpmfhhaaZID
import Derived.Test.YtjfogodfpmfhhaaZAD
import Derived.Test.YtjfogodfpmfhhaaYBD
namespace Go.Proofs.Ytjfogodfpmfhhaa
open Go.RowKit Go.Maps
set_option linter.unusedVariables false
set_option linter.unusedSimpArgs false

/-- A map tells how often each name came. -/
def NInv (l : List By) (D : DataW Unit) : Prop := IsMap D ∧ ∀ (s : By) (kl : Lit), s.length ≤ 1000000 → keyOf Try.prog 9 (.string (strB s)) = some kl → D.atKey kl (.lit (.int .i64 0)) = .lit (.int .i64 ((l.count s : Nat) : Int))
def NM (w : World) (b n : Nat) (l : List By) : Prop := ∃ D, w.ownsMap Try.prog 9 (plainElem Try.prog 3) b n D ∧ NInv l D
theorem ninv_nil : NInv [] (.map []) := ⟨isMap_empty, fun s kl _ _ => by simp; rfl⟩
theorem ninv_put {l : List By} {v : By} {D : DataW Unit} (h : NInv l D) {kl : Lit} (hk : keyOf Try.prog 9 (.string (strB v)) = some kl) : NInv (l ++ [v]) (D.put kl (.lit (.int .i64 ((l.count v : Nat) + 1 : Int)))) := by
  have hl := Try.zstrKeyed.key hk
  refine ⟨h.1.put _ _, fun s kl' hs hk' => ?_⟩
  have h2 := h.2 s kl' hs hk'
  by_cases e : v = s
  · subst e
    rw [hk] at hk'
    obtain rfl := Option.some.inj hk'
    rw [atKey_put_same h.1 hl, List.count_append]
    simp
  · have hne : kl' ≠ kl := fun q => e (str_key_inj hk (q ▸ hk'))
    rw [atKey_put_other hne, h2, List.count_append]
    simp [List.count_singleton, e]
theorem NM.agree {w w' : World} {b n : Nat} {l : List By} (h : NM w b n l) (hb : w'.heap[b]? = w.heap[b]?) : NM w' b n l := by
  obtain ⟨D, h1, h2⟩ := h; exact ⟨D, ownsMap_agree h1 hb, h2⟩
theorem NM.lt {w : World} {b n : Nat} {l : List By} (h : NM w b n l) : b < w.heap.size := by
  obtain ⟨D, h1, h2⟩ := h; exact ownsMap_lt h1
theorem NM.below {w w' : World} {b n : Nat} {l : List By} (h : NM w b n l) (hb : Below w.heap.size w w') : NM w' b n l := h.agree (hb.block b h.lt)

set_option maxRecDepth 100000 in
set_option maxHeartbeats 4000000 in
theorem k_isNew (w : World) (b n : Nat) (l : List By) (v : By) (h : NM w b n l) (hn : n ≤ 1000000) (hl : l.length ≤ 1000000) (hv : v.length ≤ 1000000) {r : Bool} (hr : decide (v ∉ l) = r) :
    Calls Try.prog 102 #[.map (some b), .string (strB v)] w fun e w' => e = .returned (.bool r) ∧ NM w' b (n + 1) (l ++ [v]) ∧ w.grownBy w' (some b) ∧ w'.heap.size = w.heap.size := by
  obtain ⟨D, hm, hi⟩ := h
  obtain ⟨kl, hkl⟩ := str_key hv
  have q2 := hi.2 v kl hv hkl
  obtain ⟨c, hc⟩ : ∃ c, l.count v = c := ⟨_, rfl⟩
  have hcl : c ≤ 1000000 := by rw [← hc]; exact Nat.le_trans List.count_le_length hl
  have hput := ninv_put hi hkl
  rw [hc] at q2 hput
  have hlook := look_plain Try.zstrKeyed Try.underlying84 Try.underlying3 (Try.zzeroInt _) hm hkl q2
  have hkw : (Lit.int .i64 ((c : Int) + 1)).wf = true := WalkArith.wf_i64 (by omega)
  obtain ⟨w9, hrun9, hown9, hturn9⟩ := World.ownsMap.store hm Try.zstrKeyed Try.underlying84 (show n < maxLen by unfold maxLen; omega) hkl (plainElem_int Try.underlying3 hkw)
  have hat9 : (D.put kl (.lit (.int .i64 ((c : Int) + 1)))).atKey kl (.lit (.int .i64 0)) = .lit (.int .i64 ((c : Int) + 1)) := atKey_put_same hi.1 (Try.zstrKeyed.key hkl) _ _
  have hlook9 := look_plain Try.zstrKeyed Try.underlying84 Try.underlying3 (Try.zzeroInt _) hown9 hkl hat9
  have HNM : Hid (NM w9 b (n + 1) (l ++ [v])) := ⟨_, hown9, hput⟩
  have HG : Hid (w.grownBy w9 (some b)) := hturn9.grown
  have HSZ : Hid (w9.heap.size = w.heap.size) := by obtain ⟨_, _, _, _, _, rfl⟩ := hturn9; simp [Lib.hid, Hid, ChangeMaps.setBlock]
  have hrr : (((c : Int) + 1 == 1) : Bool) = r := by
    rw [← hr]
    by_cases h0 : c = 0
    · subst h0
      have : v ∉ l := List.count_eq_zero.1 hc
      simp [this]
    · have : v ∈ l := List.count_pos_iff.1 (by omega)
      simp [this]; omega
  clear hm hi hput q2 hown9 hturn9 hat9 hr hkw hc hkl
  go_enter Try.func102, Try.ntmps102
  go_wp2_with fail
  go_ret
  exact ⟨rfl, HNM.out, HG.out, HSZ.out⟩

theorem nodup_snoc {l : List By} {v : By} (h : l.Nodup) (hv : v ∉ l) : (l ++ [v]).Nodup := by
  rw [List.nodup_append]
  exact ⟨h, by simp, fun a ha b hb => by simp at hb; subst hb; exact fun e => hv (e ▸ ha)⟩
theorem nodup_not {l : List By} {v : By} {k : Nat} (hv : l[k]? = some v) (hm : v ∈ l.take k) : ¬ l.Nodup := fun h => by
  obtain ⟨i, hi, e⟩ := List.mem_iff_getElem.1 hm
  have hk := (List.getElem?_eq_some_iff.1 hv)
  obtain ⟨hk1, hk2⟩ := hk
  have hik : i < k := by rw [List.length_take] at hi; omega
  rw [List.getElem_take] at e
  exact List.pairwise_iff_getElem.1 h i k (by omega) hk1 hik (e.trans hk2.symm)

set_option maxRecDepth 100000 in
set_option maxHeartbeats 4000000 in
theorem k_allNew {S : Nat → Prop} (w : World) (vs : List By) (a : Option Addr) (m cap : Nat) (hm : vs.length = m) (hl : m ≤ 1000000) (hlen : ∀ s ∈ vs, s.length ≤ 1000000) (hN : InC S w (.s vs.length 1 (strsC vs)) (.slice a m cap)) {r : Bool} (hr : decide vs.Nodup = r) :
    Calls Try.prog 103 #[.slice a m cap] w fun e w' => e = .returned (.bool r) ∧ Below w.heap.size w w' := by
  have hmm := @run_makeMap Try.prog
  have HN := Lib.hid hN
  have HM := Lib.hid hm
  have HLN := Lib.hid hlen
  have HR := Lib.hid hr
  clear hN hm hlen hr
  go_enter Try.func103, Try.ntmps103
  go_wp2_with fail
  go_loopw [9] (fun i wr => ∃ (k : Nat), k ≤ m ∧ i = .int .i64 (k : Int) ∧ Hid (NM wr w.heap.size k (vs.take k)) ∧ Hid ((vs.take k).Nodup) ∧ Hid (Below w.heap.size w wr)) (fun i _ => m - (intOf i).toNat)
  case atStart => exact ⟨0, Nat.zero_le _, rfl, Lib.hid ⟨_, World.ownsMap_made _ _ _ _, by simpa using ninv_nil⟩, Lib.hid (by simp), (Below.refl _ _).alloc (Nat.le_refl _) _⟩
  case round =>
    obtain ⟨k, hk, rfl, HMP, HND, HB⟩ := hrel
    by_cases hlt : k < m
    · obtain ⟨v, hv⟩ : ∃ v, vs[k]? = some v := ⟨_, List.getElem?_eq_getElem (by rw [HM.out]; exact hlt)⟩
      have hvl := HLN.out v (List.mem_of_getElem? hv)
      obtain ⟨b, off, rfl, hb, hcx⟩ := HN.out.text hv
      replace hcx := (HB.out.cell (p := ⟨b, off + k, none⟩) hb).trans hcx
      have htk : vs.take (k + 1) = vs.take k ++ [v] := by rw [List.take_add_one, hv]; rfl
      have htl : (vs.take k).length ≤ 1000000 := by rw [List.length_take]; omega
      have hbr : b < wr.heap.size := by have := HB.out.size; omega
      have HTK := Lib.hid htk
      have HTL := Lib.hid htl
      have HVV := Lib.hid hv
      cases hin : decide (v ∉ vs.take k) with
      | true =>
        have hni : v ∉ vs.take k := of_decide_eq_true hin
        have HC := Lib.hid (fun w' (h : NM w' w.heap.size k (vs.take k)) => k_isNew w' w.heap.size k (vs.take k) v h (by omega) htl hvl hin)
        have HND2 := Lib.hid (nodup_snoc HND.out hni)
        clear htk htl hv hvl hin hni
        go_wp2_with (go_at_call 102; refine (HC.out _ HMP.out).mono ?_; rintro e w9 ⟨rfl, hnm, hg, hsz⟩; have HNM := Lib.hid hnm; have HG := Lib.hid hg; have HSZ := Lib.hid hsz; clear hnm hg hsz)
        exact ⟨⟨k + 1, by omega, by go_num, by rw [HTK.out]; exact HNM, by rw [HTK.out]; exact HND2, HB.out.grown HG.out HB.out.size (fun q e => by cases e; exact Nat.le_refl _)⟩, by simp [intOf]; omega⟩
      | false =>
        have hni : v ∈ vs.take k := Decidable.not_not.1 (of_decide_eq_false hin)
        have HC := Lib.hid (fun w' (h : NM w' w.heap.size k (vs.take k)) => k_isNew w' w.heap.size k (vs.take k) v h (by omega) htl hvl hin)
        have hrf : r = false := by rw [← HR.out]; exact decide_eq_false (nodup_not hv hni)
        subst hrf
        clear htk htl hv hvl hin hni
        go_wp2_with (go_at_call 102; refine (HC.out _ HMP.out).mono ?_; rintro e w9 ⟨rfl, hnm, hg, hsz⟩; have HNM := Lib.hid hnm; have HG := Lib.hid hg; have HSZ := Lib.hid hsz; clear hnm hg hsz)
        go_ret
        exact ⟨rfl, HB.out.grown HG.out HB.out.size (fun q e => by cases e; exact Nat.le_refl _)⟩
    · have hkm : k = m := by omega
      subst hkm
      have hrt : r = true := by
        rw [← HR.out]
        have := HND.out
        rw [List.take_of_length_le (by rw [HM.out]; exact Nat.le_refl _)] at this
        exact decide_eq_true this
      subst hrt
      go_wp2_with fail
      go_ret
      exact ⟨rfl, HB.out⟩

end Go.Proofs.Ytjfogodfpmfhhaa

namespace Go.Proofs.Ytjfogodfpmfhhaa
open Go.RowKit Go.Maps
open Go.WideMaps (KeyLaw)
set_option linter.unusedVariables false
set_option linter.unusedSimpArgs false

def shV (s : By × Nat) : Value := .agg #[.string (strB s.1), .int .i64 (s.2 : Int)]
def shFit (s : By × Nat) : Prop := s.1.length ≤ 1000000 ∧ s.2 ≤ 1000000
theorem shV_inj {a b : By × Nat} (h : shV a = shV b) : a = b := by
  unfold shV at h
  simp at h
  obtain ⟨h1, h2⟩ := h
  exact Prod.ext (strB_inj h1) (by omega)
theorem Try.shWide : (match Try.prog.underlying 178 with | some (.array _ _) | some (.struct _) => true | _ => false) = true := by kernel_rfl
theorem Try.shDeep : Try.prog.keyTypeAt 2 178 = true := by kernel_rfl
theorem Try.shCells : Try.prog.cellsOf 178 = 2 := by kernel_rfl
theorem Try.shType : Try.prog.keyType 178 = true := by kernel_rfl
theorem Try.shRow : (178 : TypeId) < Try.prog.types.size := of_decide_eq_true (by kernel_rfl)
set_option maxRecDepth 100000 in
theorem Try.shLaw : KeyLaw Try.prog 178 := deep_law_laid Try.sortLaid (m := 2) (by omega) Try.shRow Try.shDeep Try.shWide
theorem Try.shKeyed : Keyed Try.prog 178 := Keyed.of_law Try.shLaw
theorem sh_key {s : By × Nat} (h : shFit s) : ∃ l, keyOf Try.prog 178 (shV s) = some l := by
  obtain ⟨m, hm⟩ := Try.typesPos2
  obtain ⟨h1, h2⟩ := h
  have hs2 : (strB s.1).size ≤ maxLen := by rw [strB_size]; unfold maxLen; omega
  unfold keyOf shV
  simp only [Try.underlying178, Try.shType]
  rw [hm]
  simp [Program.keyLits, Value.formed, Try.underlying178, Try.shCells, Try.intCells, Try.strCells, Try.underlying3, Try.underlying9, Value.cells, fits_wf (x := (s.2 : Int)) (by unfold fits; omega), hs2]

/-- A map has the shapes of a list, each by the number 1. -/
def SInv (l : List (By × Nat)) (D : DataW Unit) : Prop := IsMap D ∧ ∀ (s : By × Nat) (kl : Lit), shFit s → keyOf Try.prog 178 (shV s) = some kl → D.atKey kl (.lit (.int .i64 0)) = .lit (.int .i64 (if s ∈ l then 1 else 0))
def SM (w : World) (b n : Nat) (l : List (By × Nat)) : Prop := ∃ D, w.ownsMap Try.prog 178 (plainElem Try.prog 3) b n D ∧ SInv l D
theorem sinv_nil : SInv [] (.map []) := ⟨isMap_empty, fun s kl _ _ => by simp; rfl⟩
theorem sinv_put {l : List (By × Nat)} {v : By × Nat} {D : DataW Unit} (h : SInv l D) {kl : Lit} (hk : keyOf Try.prog 178 (shV v) = some kl) : SInv (l ++ [v]) (D.put kl (.lit (.int .i64 1))) := by
  have hl := Try.shKeyed.key hk
  refine ⟨h.1.put _ _, fun s kl' hs hk' => ?_⟩
  have h2 := h.2 s kl' hs hk'
  by_cases e : v = s
  · subst e
    rw [hk] at hk'
    obtain rfl := Option.some.inj hk'
    rw [atKey_put_same h.1 hl]
    simp
  · have hne : kl' ≠ kl := fun q => e (shV_inj (Try.shKeyed.inj hk (q ▸ hk')))
    rw [atKey_put_other hne, h2]
    have : ¬ s = v := fun q => e q.symm
    simp [this]
theorem SM.agree {w w' : World} {b n : Nat} {l : List (By × Nat)} (h : SM w b n l) (hb : w'.heap[b]? = w.heap[b]?) : SM w' b n l := by
  obtain ⟨D, h1, h2⟩ := h; exact ⟨D, ownsMap_agree h1 hb, h2⟩
theorem SM.lt {w : World} {b n : Nat} {l : List (By × Nat)} (h : SM w b n l) : b < w.heap.size := by
  obtain ⟨D, h1, h2⟩ := h; exact ownsMap_lt h1
theorem SM.below {w w' : World} {b n : Nat} {l : List (By × Nat)} (h : SM w b n l) (hb : Below w.heap.size w w') : SM w' b n l := h.agree (hb.block b h.lt)
/-- A shape more. -/
theorem SM.store {w : World} {b n : Nat} {l : List (By × Nat)} (h : SM w b n l) (hn : n ≤ 10000000) (v : By × Nat) (hv : shFit v) :
    ∃ w', Sem.run Try.prog (Instr.mapUpdate 110 (.map (some b)) (shV v) (.int .i64 1)) w = .ok () w' ∧ SM w' b (n + 1) (l ++ [v]) ∧ w.grownBy w' (some b) ∧ w'.heap.size = w.heap.size := by
  obtain ⟨D, hm, hi⟩ := h
  obtain ⟨kl, hkl⟩ := sh_key hv
  have hkw : (Lit.int .i64 (1 : Int)).wf = true := WalkArith.wf_i64 (by omega)
  obtain ⟨w9, hrun9, hown9, hturn9⟩ := World.ownsMap.store hm Try.shKeyed Try.underlying110 (show n < maxLen by unfold maxLen; omega) hkl (plainElem_int Try.underlying3 hkw)
  refine ⟨w9, hrun9, ⟨_, hown9, sinv_put hi hkl⟩, hturn9.grown, ?_⟩
  obtain ⟨_, _, _, _, _, rfl⟩ := hturn9
  simp [ChangeMaps.setBlock]
theorem SM.look {w : World} {b n : Nat} {l : List (By × Nat)} (h : SM w b n l) (v : By × Nat) (hv : shFit v) :
    Sem.run Try.prog (Instr.lookup 110 (.map (some b)) (shV v) false) w = .ok (.int .i64 (if v ∈ l then 1 else 0)) w := by
  obtain ⟨D, hm, hi⟩ := h
  obtain ⟨kl, hkl⟩ := sh_key hv
  exact look_plain Try.shKeyed Try.underlying110 Try.underlying3 (Try.zzeroInt _) hm hkl (hi.2 v kl hv hkl)

theorem SInv.same {l l' : List (By × Nat)} {D : DataW Unit} (h : SInv l D) (he : ∀ s, s ∈ l ↔ s ∈ l') : SInv l' D := ⟨h.1, fun s kl h1 h2 => by
  rw [h.2 s kl h1 h2]
  by_cases hs : s ∈ l
  · rw [if_pos hs, if_pos ((he s).1 hs)]
  · rw [if_neg hs, if_neg (fun q => hs ((he s).2 q))]⟩
theorem SM.same {w : World} {b n : Nat} {l l' : List (By × Nat)} (h : SM w b n l) (he : ∀ s, s ∈ l ↔ s ∈ l') : SM w b n l' := by
  obtain ⟨D, h1, h2⟩ := h; exact ⟨D, h1, h2.same he⟩
/-- A name more that was not there. -/
theorem NM.store1 {w : World} {b n : Nat} {l : List By} (h : NM w b n l) (hn : n ≤ 10000000) (v : By) (hv : v.length ≤ 1000000) (hnew : v ∉ l) :
    ∃ w', Sem.run Try.prog (Instr.mapUpdate 84 (.map (some b)) (.string (strB v)) (.int .i64 1)) w = .ok () w' ∧ NM w' b (n + 1) (l ++ [v]) ∧ w.grownBy w' (some b) ∧ w'.heap.size = w.heap.size := by
  obtain ⟨D, hm, hi⟩ := h
  obtain ⟨kl, hkl⟩ := str_key hv
  have hkw : (Lit.int .i64 (1 : Int)).wf = true := WalkArith.wf_i64 (by omega)
  obtain ⟨w9, hrun9, hown9, hturn9⟩ := World.ownsMap.store hm Try.zstrKeyed Try.underlying84 (show n < maxLen by unfold maxLen; omega) hkl (plainElem_int Try.underlying3 hkw)
  have hput := ninv_put hi hkl
  rw [List.count_eq_zero.2 hnew] at hput
  refine ⟨w9, hrun9, ⟨_, hown9, by simpa using hput⟩, hturn9.grown, ?_⟩
  obtain ⟨_, _, _, _, _, rfl⟩ := hturn9
  simp [ChangeMaps.setBlock]
theorem grown_below {B : Nat} {w w' w'' : World} (h : Below B w w') {b : Nat} (hg : w'.grownBy w'' (some b)) (hb : B ≤ b) (hB : B ≤ w'.heap.size) : Below B w w'' := h.grown hg hB (fun q e => by cases e; exact hb)
theorem grown_keep {w w' : World} {b c : Nat} (hg : w.grownBy w' (some b)) (hc : c < w.heap.size) (hn : c ≠ b) : w'.heap[c]? = w.heap[c]? := hg.block c hc (fun e => hn (Option.some.inj e))

def nInt : By := [73, 110, 116]
def nBool : By := [66, 111, 111, 108]
def nArr : By := [45, 62]
def nCom : By := [44]
def shapesFrom : List By → List Dt → List (By × Nat)
  | _, [] => []
  | seen, d :: r => (if d.s ∈ seen then [] else [(d.s, d.vars.length)]) ++ shapesFrom (seen ++ [d.s]) r
def shapes0 : List (By × Nat) := [(nInt, 0), (nBool, 0), (nArr, 2)]
def shapesC : List (By × Nat) := [(nCom, 2), (nCom, 3), (nCom, 4), (nCom, 5), (nCom, 6), (nCom, 7), (nCom, 8)]
def shapesL (l : List Dt) : List (By × Nat) := shapes0 ++ shapesC ++ shapesFrom [nInt, nBool, nArr, nCom] l
theorem shapesFrom_snoc (d : Dt) : ∀ (l : List Dt) (seen : List By), shapesFrom seen (l ++ [d]) = shapesFrom seen l ++ (if d.s ∈ seen ++ l.map Dt.s then [] else [(d.s, d.vars.length)])
  | [], seen => by simp [shapesFrom]
  | x :: r, seen => by
    simp only [List.cons_append, shapesFrom, shapesFrom_snoc d r]
    simp [List.append_assoc]

set_option maxRecDepth 100000 in
set_option maxHeartbeats 4000000 in
theorem k_shapesOf {S : Nat → Prop} (w : World) (l : List Dt) (a : Option Addr) (m cap : Nat) (hm : l.length = m) (hl : m ≤ 100000) (hlen : ∀ d ∈ l, d.s.length ≤ 1000000 ∧ d.vars.length ≤ 1000000) (hN : InC S w (.s l.length 4 (l.flatMap dtC)) (.slice a m cap)) :
    Calls Try.prog 101 #[.slice a m cap] w fun e w' => ∃ b n, e = .returned (.map (some b)) ∧ w.heap.size ≤ b ∧ SM w' b n (shapesL l) ∧ Below w.heap.size w w' := by
  have hmm := @run_makeMap Try.prog
  have HN := Lib.hid hN
  have HM := Lib.hid hm
  have HLN := Lib.hid hlen
  clear hN hm hlen
  have HS0 : SM (w.alloc (.map #[] 0)) w.heap.size 0 [] := ⟨_, World.ownsMap_made _ _ _ _, by simpa using sinv_nil⟩
  have HS : Hid (SM (w.alloc (.map #[] 0)).drew w.heap.size 0 []) := HS0.agree rfl
  clear HS0
  have HBB : Hid (Below w.heap.size w (w.alloc (.map #[] 0)).drew) := ((Below.refl _ w).alloc (Nat.le_refl _) _).drew
  go_enter Try.func101, Try.ntmps101
  go_wp2_with fail
  go_cut [3] (fun v3 wx => v3 = .map (some w.heap.size) ∧ SM wx w.heap.size 3 shapes0 ∧ Below w.heap.size w wx)
  case first =>
    obtain ⟨w1, r1, s1, g1, z1⟩ := SM.store HS.out (by decide) (nInt, 0) ⟨by decide, by decide⟩
    have e1 : Sem.run Try.prog (Instr.mapUpdate 110 (.map (some w.heap.size)) (.agg #[.string ⟨#[73, 110, 116]⟩, .int .i64 0]) (.int .i64 1)) (w.alloc (.map #[] 0)).drew = .ok () w1 := r1
    have b1 : Below w.heap.size w w1 := grown_below HBB.out g1 (Nat.le_refl _) HBB.out.size
    obtain ⟨w2, r2, s2, g2, z2⟩ := SM.store HS.out (by decide) (nBool, 0) ⟨by decide, by decide⟩
    have e2 : Sem.run Try.prog (Instr.mapUpdate 110 (.map (some w.heap.size)) (.agg #[.string ⟨#[66, 111, 111, 108]⟩, .int .i64 0]) (.int .i64 1)) (w.alloc (.map #[] 0)).drew = .ok () w2 := r2
    have b2 : Below w.heap.size w w2 := grown_below HBB.out g2 (Nat.le_refl _) HBB.out.size
    obtain ⟨w3, r3, s3, g3, z3⟩ := SM.store HS.out (by decide) (nArr, 2) ⟨by decide, by decide⟩
    have e3 : Sem.run Try.prog (Instr.mapUpdate 110 (.map (some w.heap.size)) (.agg #[.string ⟨#[45, 62]⟩, .int .i64 2]) (.int .i64 1)) (w.alloc (.map #[] 0)).drew = .ok () w3 := r3
    have b3 : Below w.heap.size w w3 := grown_below HBB.out g3 (Nat.le_refl _) HBB.out.size
    obtain ⟨w12, r12, s12, g12, z12⟩ := SM.store s1 (by decide) (nBool, 0) ⟨by decide, by decide⟩
    have e12 : Sem.run Try.prog (Instr.mapUpdate 110 (.map (some w.heap.size)) (.agg #[.string ⟨#[66, 111, 111, 108]⟩, .int .i64 0]) (.int .i64 1)) w1 = .ok () w12 := r12
    have b12 : Below w.heap.size w w12 := grown_below b1 g12 (Nat.le_refl _) b1.size
    obtain ⟨w13, r13, s13, g13, z13⟩ := SM.store s1 (by decide) (nArr, 2) ⟨by decide, by decide⟩
    have e13 : Sem.run Try.prog (Instr.mapUpdate 110 (.map (some w.heap.size)) (.agg #[.string ⟨#[45, 62]⟩, .int .i64 2]) (.int .i64 1)) w1 = .ok () w13 := r13
    have b13 : Below w.heap.size w w13 := grown_below b1 g13 (Nat.le_refl _) b1.size
    obtain ⟨w21, r21, s21, g21, z21⟩ := SM.store s2 (by decide) (nInt, 0) ⟨by decide, by decide⟩
    have e21 : Sem.run Try.prog (Instr.mapUpdate 110 (.map (some w.heap.size)) (.agg #[.string ⟨#[73, 110, 116]⟩, .int .i64 0]) (.int .i64 1)) w2 = .ok () w21 := r21
    have b21 : Below w.heap.size w w21 := grown_below b2 g21 (Nat.le_refl _) b2.size
    obtain ⟨w23, r23, s23, g23, z23⟩ := SM.store s2 (by decide) (nArr, 2) ⟨by decide, by decide⟩
    have e23 : Sem.run Try.prog (Instr.mapUpdate 110 (.map (some w.heap.size)) (.agg #[.string ⟨#[45, 62]⟩, .int .i64 2]) (.int .i64 1)) w2 = .ok () w23 := r23
    have b23 : Below w.heap.size w w23 := grown_below b2 g23 (Nat.le_refl _) b2.size
    obtain ⟨w31, r31, s31, g31, z31⟩ := SM.store s3 (by decide) (nInt, 0) ⟨by decide, by decide⟩
    have e31 : Sem.run Try.prog (Instr.mapUpdate 110 (.map (some w.heap.size)) (.agg #[.string ⟨#[73, 110, 116]⟩, .int .i64 0]) (.int .i64 1)) w3 = .ok () w31 := r31
    have b31 : Below w.heap.size w w31 := grown_below b3 g31 (Nat.le_refl _) b3.size
    obtain ⟨w32, r32, s32, g32, z32⟩ := SM.store s3 (by decide) (nBool, 0) ⟨by decide, by decide⟩
    have e32 : Sem.run Try.prog (Instr.mapUpdate 110 (.map (some w.heap.size)) (.agg #[.string ⟨#[66, 111, 111, 108]⟩, .int .i64 0]) (.int .i64 1)) w3 = .ok () w32 := r32
    have b32 : Below w.heap.size w w32 := grown_below b3 g32 (Nat.le_refl _) b3.size
    obtain ⟨w123, r123, s123, g123, z123⟩ := SM.store s12 (by decide) (nArr, 2) ⟨by decide, by decide⟩
    have e123 : Sem.run Try.prog (Instr.mapUpdate 110 (.map (some w.heap.size)) (.agg #[.string ⟨#[45, 62]⟩, .int .i64 2]) (.int .i64 1)) w12 = .ok () w123 := r123
    have b123 : Below w.heap.size w w123 := grown_below b12 g123 (Nat.le_refl _) b12.size
    obtain ⟨w132, r132, s132, g132, z132⟩ := SM.store s13 (by decide) (nBool, 0) ⟨by decide, by decide⟩
    have e132 : Sem.run Try.prog (Instr.mapUpdate 110 (.map (some w.heap.size)) (.agg #[.string ⟨#[66, 111, 111, 108]⟩, .int .i64 0]) (.int .i64 1)) w13 = .ok () w132 := r132
    have b132 : Below w.heap.size w w132 := grown_below b13 g132 (Nat.le_refl _) b13.size
    obtain ⟨w213, r213, s213, g213, z213⟩ := SM.store s21 (by decide) (nArr, 2) ⟨by decide, by decide⟩
    have e213 : Sem.run Try.prog (Instr.mapUpdate 110 (.map (some w.heap.size)) (.agg #[.string ⟨#[45, 62]⟩, .int .i64 2]) (.int .i64 1)) w21 = .ok () w213 := r213
    have b213 : Below w.heap.size w w213 := grown_below b21 g213 (Nat.le_refl _) b21.size
    obtain ⟨w231, r231, s231, g231, z231⟩ := SM.store s23 (by decide) (nInt, 0) ⟨by decide, by decide⟩
    have e231 : Sem.run Try.prog (Instr.mapUpdate 110 (.map (some w.heap.size)) (.agg #[.string ⟨#[73, 110, 116]⟩, .int .i64 0]) (.int .i64 1)) w23 = .ok () w231 := r231
    have b231 : Below w.heap.size w w231 := grown_below b23 g231 (Nat.le_refl _) b23.size
    obtain ⟨w312, r312, s312, g312, z312⟩ := SM.store s31 (by decide) (nBool, 0) ⟨by decide, by decide⟩
    have e312 : Sem.run Try.prog (Instr.mapUpdate 110 (.map (some w.heap.size)) (.agg #[.string ⟨#[66, 111, 111, 108]⟩, .int .i64 0]) (.int .i64 1)) w31 = .ok () w312 := r312
    have b312 : Below w.heap.size w w312 := grown_below b31 g312 (Nat.le_refl _) b31.size
    obtain ⟨w321, r321, s321, g321, z321⟩ := SM.store s32 (by decide) (nInt, 0) ⟨by decide, by decide⟩
    have e321 : Sem.run Try.prog (Instr.mapUpdate 110 (.map (some w.heap.size)) (.agg #[.string ⟨#[73, 110, 116]⟩, .int .i64 0]) (.int .i64 1)) w32 = .ok () w321 := r321
    have b321 : Below w.heap.size w w321 := grown_below b32 g321 (Nat.le_refl _) b32.size
    have HQ123 : Hid (SM w123 w.heap.size 3 shapes0 ∧ Below w.heap.size w w123) := ⟨s123.same (by intro s; constructor <;> (intro h; simp [shapes0] at h ⊢; rcases h with h | h | h <;> simp [h])), b123⟩
    have HQ132 : Hid (SM w132 w.heap.size 3 shapes0 ∧ Below w.heap.size w w132) := ⟨s132.same (by intro s; constructor <;> (intro h; simp [shapes0] at h ⊢; rcases h with h | h | h <;> simp [h])), b132⟩
    have HQ213 : Hid (SM w213 w.heap.size 3 shapes0 ∧ Below w.heap.size w w213) := ⟨s213.same (by intro s; constructor <;> (intro h; simp [shapes0] at h ⊢; rcases h with h | h | h <;> simp [h])), b213⟩
    have HQ231 : Hid (SM w231 w.heap.size 3 shapes0 ∧ Below w.heap.size w w231) := ⟨s231.same (by intro s; constructor <;> (intro h; simp [shapes0] at h ⊢; rcases h with h | h | h <;> simp [h])), b231⟩
    have HQ312 : Hid (SM w312 w.heap.size 3 shapes0 ∧ Below w.heap.size w w312) := ⟨s312.same (by intro s; constructor <;> (intro h; simp [shapes0] at h ⊢; rcases h with h | h | h <;> simp [h])), b312⟩
    have HQ321 : Hid (SM w321 w.heap.size 3 shapes0 ∧ Below w.heap.size w w321) := ⟨s321.same (by intro s; constructor <;> (intro h; simp [shapes0] at h ⊢; rcases h with h | h | h <;> simp [h])), b321⟩
    clear r1 s1 g1 z1 b1 r2 s2 g2 z2 b2 r3 s3 g3 z3 b3 r12 s12 g12 z12 b12 r13 s13 g13 z13 b13 r21 s21 g21 z21 b21 r23 s23 g23 z23 b23 r31 s31 g31 z31 b31 r32 s32 g32 z32 b32 r123 s123 g123 z123 b123 r132 s132 g132 z132 b132 r213 s213 g213 z213 b213 r231 s231 g231 z231 b231 r312 s312 g312 z312 b312 r321 s321 g321 z321 b321
    go_region
    all_goals go_wp2_with fail
    all_goals go_meet
    all_goals first
      | exact ⟨rfl, HQ123.out.1, HQ123.out.2⟩
      | exact ⟨rfl, HQ132.out.1, HQ132.out.2⟩
      | exact ⟨rfl, HQ213.out.1, HQ213.out.2⟩
      | exact ⟨rfl, HQ231.out.1, HQ231.out.2⟩
      | exact ⟨rfl, HQ312.out.1, HQ312.out.2⟩
      | exact ⟨rfl, HQ321.out.1, HQ321.out.2⟩
  case rest =>
    obtain ⟨rfl, hs3, hb3⟩ := hcut
    have HS3 := Lib.hid hs3
    have HB3 := Lib.hid hb3
    clear hs3 hb3 HS HBB
    go_wp2_with fail
    go_loopw [4] (fun iv wr => ∃ k : Nat, k ≤ 7 ∧ iv = .int .i64 ((k : Int) + 2) ∧ Hid (SM wr w.heap.size (3 + k) (shapes0 ++ shapesC.take k)) ∧ Hid (Below w.heap.size w wr)) (fun iv _ => 9 - (intOf iv).toNat)
    case atStart => exact ⟨0, by omega, rfl, by simpa using HS3, HB3⟩
    case round =>
      obtain ⟨k, hk, rfl, HS, HB⟩ := hrel
      clear HS3 HB3
      by_cases hlt : k < 7
      · obtain ⟨w9, hr9, hs9, hg9, hz9⟩ := SM.store HS.out (by omega) (nCom, k + 2) ⟨(by show nCom.length ≤ _; decide), by show k + 2 ≤ _; omega⟩
        have hr9' : Sem.run Try.prog (Instr.mapUpdate 110 (.map (some w.heap.size)) (.agg #[.string ⟨#[44]⟩, .int .i64 ((k : Int) + 2)]) (.int .i64 1)) wr = .ok () w9 := hr9
        have htk : shapesC.take (k + 1) = shapesC.take k ++ [(nCom, k + 2)] := by
          have : ∀ k < 7, shapesC.take (k + 1) = shapesC.take k ++ [(nCom, k + 2)] := by decide
          exact this k hlt
        have HS9 : Hid (SM w9 w.heap.size (3 + (k + 1)) (shapes0 ++ shapesC.take (k + 1))) := by rw [htk, ← List.append_assoc]; exact hs9
        have HB9 := Lib.hid (grown_below HB.out hg9 (Nat.le_refl _) HB.out.size)
        clear hr9 hs9 hg9 hz9 htk
        go_wp2_with fail
        go_roundw
        case rel => exact ⟨k + 1, by omega, by go_num, HS9, HB9⟩
        case measure => simp [intOf]; omega
      · have hk7 : k = 7 := by omega
        obtain ⟨wo, rfl⟩ : ∃ wo, wo = wr := ⟨wr, rfl⟩
        have HS3 : Hid (SM wo w.heap.size 10 (shapes0 ++ shapesC)) := by have := HS.out; rw [hk7] at this; exact this
        clear hk7
        have HB3 := HB
        obtain ⟨M2, hM2⟩ : ∃ M2, wo.heap.size = M2 := ⟨_, rfl⟩
        have hM1 : w.heap.size < M2 := by rw [← hM2]; exact HS.out.lt
        have hn0 : NM (wo.alloc (.map #[] 0)) M2 0 [] := ⟨_, hM2 ▸ World.ownsMap_made _ _ _ _, by simpa using ninv_nil⟩
        obtain ⟨u1, r1, n1, g1, z1⟩ := NM.store1 hn0 (by omega) nInt (by decide) (by decide)
        obtain ⟨u2, r2, n2, g2, z2⟩ := NM.store1 n1 (by omega) nBool (by decide) (by decide)
        obtain ⟨u3, r3, n3, g3, z3⟩ := NM.store1 n2 (by omega) nArr (by decide) (by decide)
        obtain ⟨u4, r4, n4, g4, z4⟩ := NM.store1 n3 (by omega) nCom (by decide) (by decide)
        have ha : Below w.heap.size w (wo.alloc (.map #[] 0)) := HB.out.alloc HB.out.size _
        have hs0 : SM (wo.alloc (.map #[] 0)) w.heap.size 10 (shapes0 ++ shapesC) := HS3.out.below ((Below.refl _ wo).alloc (Nat.le_refl _) _)
        have k1 : Below w.heap.size w u1 := grown_below ha g1 (by omega) ha.size
        have k2 : Below w.heap.size w u2 := grown_below k1 g2 (by omega) k1.size
        have k3 : Below w.heap.size w u3 := grown_below k2 g3 (by omega) k2.size
        have k4 : Below w.heap.size w u4 := grown_below k3 g4 (by omega) k3.size
        have hs1 := hs0.agree (grown_keep g1 hs0.lt (by omega))
        have hs2 := hs1.agree (grown_keep g2 hs1.lt (by omega))
        have hs3 := hs2.agree (grown_keep g3 hs2.lt (by omega))
        have hs4 := hs3.agree (grown_keep g4 hs3.lt (by omega))
        have HS4 := Lib.hid hs4
        have HN4 : Hid (NM u4 M2 4 [nInt, nBool, nArr, nCom]) := n4
        have HB4 := Lib.hid k4
        have r1' : Sem.run Try.prog (Instr.mapUpdate 84 (.map (some M2)) (.string ⟨#[73, 110, 116]⟩) (.int .i64 1)) (wo.alloc (.map #[] 0)) = .ok () u1 := r1
        have r2' : Sem.run Try.prog (Instr.mapUpdate 84 (.map (some M2)) (.string ⟨#[66, 111, 111, 108]⟩) (.int .i64 1)) u1 = .ok () u2 := r2
        have r3' : Sem.run Try.prog (Instr.mapUpdate 84 (.map (some M2)) (.string ⟨#[45, 62]⟩) (.int .i64 1)) u2 = .ok () u3 := r3
        have r4' : Sem.run Try.prog (Instr.mapUpdate 84 (.map (some M2)) (.string ⟨#[44]⟩) (.int .i64 1)) u3 = .ok () u4 := r4
        clear r1 r2 r3 r4 n1 n2 n3 n4 g1 g2 g3 g4 z1 z2 z3 z4 ha hs0 k1 k2 k3 k4 hs1 hs2 hs3 hs4 hn0 HS HB
        go_wp2_with fail
        clear hM2
        go_loopw [24] (fun iv wr => ∃ k n1 : Nat, k ≤ m ∧ n1 ≤ 10 + k ∧ iv = .int .i64 (k : Int) ∧ Hid (SM wr w.heap.size n1 (shapes0 ++ shapesC ++ shapesFrom [nInt, nBool, nArr, nCom] (l.take k))) ∧ Hid (NM wr M2 (4 + k) ([nInt, nBool, nArr, nCom] ++ (l.take k).map Dt.s)) ∧ Hid (Below w.heap.size w wr)) (fun iv _ => m - (intOf iv).toNat)
        case atStart => exact ⟨0, 10, by omega, by omega, rfl, by simpa [shapesFrom] using HS4, by simpa using HN4, HB4⟩
        case round =>
          clear HS4 HN4 HB4 HS3 HB3
          clear hlt
          obtain ⟨k, n1, hk, hn1, rfl, HS, HNM, HB⟩ := hrel
          by_cases hlt : k < m
          · obtain ⟨d, hd⟩ : ∃ d, l[k]? = some d := ⟨_, List.getElem?_eq_getElem (by rw [HM.out]; exact hlt)⟩
            obtain ⟨hd1, hd2⟩ := HLN.out d (List.mem_of_getElem? hd)
            obtain ⟨b, off, us, rfl, hb, hxv, hc⟩ := HN.out.elem dtC_len hd
            obtain ⟨a1, a2, c1, c2, hz9, _, _⟩ := hxv.dtp
            obtain rfl := agg_inj hz9
            have hbw : b < wr.heap.size := by have := HB.out.size; omega
            have hcc : ∀ (j : Nat) (u : Value), ([.string (strB d.s), .int .i64 d.p, .slice a1 d.vars.length c1, .slice a2 d.cons.length c2] : List Value)[j]? = some u → wr.cell? ⟨b, off + (k * 4 + j), none⟩ = some u := fun j u hu => (HB.out.cell (p := ⟨b, off + (k * 4 + j), none⟩) hb).trans (hc j u hu)
            have q0 := hcc 0 _ rfl
            have q1 := hcc 1 _ rfl
            have q2 := hcc 2 _ rfl
            have q3 := hcc 3 _ rfl
            rw [← Nat.add_assoc] at q0 q1 q2 q3
            rw [Nat.add_zero] at q0
            have htk : l.take (k + 1) = l.take k ++ [d] := by rw [List.take_add_one, hd]; rfl
            have htl : ((([nInt, nBool, nArr, nCom] : List By) ++ (l.take k).map Dt.s)).length ≤ 1000000 := by simp [List.length_take]; omega
            have HSN : Hid (shapesFrom [nInt, nBool, nArr, nCom] (l.take (k + 1)) = shapesFrom [nInt, nBool, nArr, nCom] (l.take k) ++ (if d.s ∈ [nInt, nBool, nArr, nCom] ++ (l.take k).map Dt.s then [] else [(d.s, d.vars.length)])) := by show _ = _; rw [htk, shapesFrom_snoc]
            have HMN : Hid ([nInt, nBool, nArr, nCom] ++ (l.take (k + 1)).map Dt.s = ([nInt, nBool, nArr, nCom] ++ (l.take k).map Dt.s) ++ [d.s]) := by show _ = _; rw [htk]; simp
            have T1 : ∀ W, Sem.run Try.prog (Instr.indexAt 25 (.slice (some ⟨b, off, none⟩) m cap) (.int .i64 (k : Int))) W = .ok (.pointer (some ⟨b, off + k * 4, none⟩)) W := fun W => by go_simp
            obtain ⟨DX, hDX⟩ : ∃ DX, ([nInt, nBool, nArr, nCom] : List By) ++ (l.take k).map Dt.s = DX := ⟨_, rfl⟩
            rw [hDX] at HNM HMN HSN htl
            have HSa := Lib.hid (HS.out.below ((Below.refl _ wr).alloc (Nat.le_refl _) (.cells #[.string (strB d.s), .int .i64 d.p, .slice a1 d.vars.length c1, .slice a2 d.cons.length c2] 56)))
            have HNa := Lib.hid (HNM.out.below ((Below.refl _ wr).alloc (Nat.le_refl _) (.cells #[.string (strB d.s), .int .i64 d.p, .slice a1 d.vars.length c1, .slice a2 d.cons.length c2] 56)))
            have HBa : Hid (Below w.heap.size w (wr.alloc (.cells #[.string (strB d.s), .int .i64 d.p, .slice a1 d.vars.length c1, .slice a2 d.cons.length c2] 56))) := HB.out.alloc HB.out.size _
            have hM2r := HNM.out.lt
            have HBX := Lib.hid (Box.new wr 56 [.string (strB d.s), .int .i64 d.p, .slice a1 d.vars.length c1, .slice a2 d.cons.length c2])
            have HDS := Lib.hid hd1
            have HDV := Lib.hid hd2
            have hwm := HS.out.lt
            clear hcc hc hxv hd htk hDX hd1 hd2 HS HNM HB
            cases hin : decide (d.s ∉ DX) with
            | true =>
              have hni : d.s ∉ DX := of_decide_eq_true hin
              have HC := Lib.hid (fun w' (h : NM w' M2 (4 + k) DX) => k_isNew w' M2 (4 + k) DX d.s h (by omega) htl HDS.out hin)
              have HIF : Hid ((if d.s ∈ DX then [] else [(d.s, d.vars.length)]) = [(d.s, d.vars.length)]) := if_neg hni
              clear hin hni htl
              go_wp2_with (go_at_call 102; refine (HC.out _ HNa.out).mono ?_; rintro e w9 ⟨rfl, hnm, hg, hsz⟩; have hs9 := HSa.out.agree (grown_keep hg HSa.out.lt (by omega)); have hbx := (HBX.out.grown hg (fun q => by have := Option.some.inj q; omega)); obtain ⟨_, _, _, _⟩ := four_cells hbx; have hbl := hbx.lt; obtain ⟨w8, hr8, hs8, hg8, hz8⟩ := hs9.store (by omega) (d.s, d.vars.length) ⟨HDS.out, HDV.out⟩; have hr8' : Sem.run Try.prog (Instr.mapUpdate 110 (.map (some w.heap.size)) (.agg #[.string (strB d.s), .int .i64 (d.vars.length : Int)]) (.int .i64 1)) w9 = .ok () w8 := hr8; have HS8 := Lib.hid hs8; have HB9 := Lib.hid (grown_below HBa.out hg (by omega) HBa.out.size); have HN8 := Lib.hid (hnm.agree (grown_keep hg8 hnm.lt (by omega))); have HB8 := Lib.hid (grown_below HB9.out hg8 (Nat.le_refl _) HB9.out.size); clear hnm hg hsz hs9 hr8 hs8 hg8 hz8 hbx)
              go_roundw
              case rel => exact ⟨k + 1, n1 + 1, by omega, by omega, by go_num, by rw [HSN.out, HIF.out, ← List.append_assoc]; exact HS8, by rw [HMN.out]; exact HN8, HB8⟩
              case measure => simp [intOf]; omega
            | false =>
              have hni : d.s ∈ DX := Decidable.not_not.1 (of_decide_eq_false hin)
              have HC := Lib.hid (fun w' (h : NM w' M2 (4 + k) DX) => k_isNew w' M2 (4 + k) DX d.s h (by omega) htl HDS.out hin)
              have HIF : Hid ((if d.s ∈ DX then [] else [(d.s, d.vars.length)]) = []) := if_pos hni
              clear hin hni htl
              go_wp2_with (go_at_call 102; refine (HC.out _ HNa.out).mono ?_; rintro e w9 ⟨rfl, hnm, hg, hsz⟩; have HS9 := Lib.hid (HSa.out.agree (grown_keep hg HSa.out.lt (by omega))); have HN9 := Lib.hid hnm; have HB9 := Lib.hid (grown_below HBa.out hg (by omega) HBa.out.size); clear hnm hg hsz)
              go_roundw
              case rel => exact ⟨k + 1, n1, by omega, by omega, by go_num, by rw [HSN.out, HIF.out, List.append_nil]; exact HS9, by rw [HMN.out]; exact HN9, HB9⟩
              case measure => simp [intOf]; omega
          · have hkm : k = m := by omega
            subst hkm
            go_wp2_with fail
            go_ret
            refine ⟨_, n1, rfl, Nat.le_refl _, ?_, HB.out⟩
            have := HS.out
            rw [List.take_of_length_le (by rw [HM.out]; exact Nat.le_refl _)] at this
            exact this

end Go.Proofs.Ytjfogodfpmfhhaa

namespace Go.Proofs.Ytjfogodfpmfhhaa
open Go.RowKit Go.Maps
set_option linter.unusedVariables false
set_option linter.unusedSimpArgs false

def nodeOk (sh : List (By × Nat)) (n : Nat) (k i : Int) (s : By) (m : Nat) : Bool := if k = 1 then decide (0 ≤ i ∧ i < (n : Int)) else if k = 2 then decide ((s, m) ∈ sh) else false
mutual
def tyOk (sh : List (By × Nat)) (n : Nat) : Ty → Bool
  | .mk k i s kids => nodeOk sh n k i s kids.length && tysOk sh n kids
def tysOk (sh : List (By × Nat)) (n : Nat) : List Ty → Bool
  | [] => true
  | x :: r => tyOk sh n x && tysOk sh n r
end
theorem tysOk_all (sh : List (By × Nat)) (n : Nat) : ∀ l : List Ty, tysOk sh n l = l.all (tyOk sh n)
  | [] => by simp [tysOk]
  | x :: r => by simp [tysOk, tysOk_all sh n r]
mutual
def tyFit : Ty → Prop
  | .mk k i s kids => s.length ≤ 1000000 ∧ kids.length ≤ 1000000 ∧ tysFit kids
def tysFit : List Ty → Prop
  | [] => True
  | x :: r => tyFit x ∧ tysFit r
end
theorem tysFit_mem : ∀ {l : List Ty} {x : Ty}, tysFit l → x ∈ l → tyFit x
  | _ :: _, _, h, .head _ => by simp only [tysFit] at h; exact h.1
  | _ :: _, _, h, .tail _ h2 => by simp only [tysFit] at h; exact tysFit_mem h.2 h2

set_option maxRecDepth 100000 in
set_option maxHeartbeats 1000000 in
theorem k_isPlace (i : Int) (n : Nat) (w : World) {r : Bool} (hr : decide (0 ≤ i ∧ i < (n : Int)) = r) :
    Calls Try.prog 57 #[.int .i64 i, .int .i64 (n : Int)] w fun e w' => e = .returned (.bool r) ∧ w' = w := by
  go_enter Try.func57, Try.ntmps57
  by_cases h1 : 0 ≤ i
  · have e1 : (decide ((0 : Int) ≤ i)) = true := decide_eq_true h1
    by_cases h2 : i < (n : Int)
    · have e2 : (decide (i < (n : Int))) = true := decide_eq_true h2
      have hrt : r = true := by rw [← hr]; exact decide_eq_true ⟨h1, h2⟩
      subst hrt
      clear hr
      go_wp2_with fail
      go_ret
      exact ⟨rfl, rfl⟩
    · have e2 : (decide (i < (n : Int))) = false := decide_eq_false h2
      have hrt : r = false := by rw [← hr]; exact decide_eq_false (fun q => h2 q.2)
      subst hrt
      clear hr
      go_wp2_with fail
      go_ret
      exact ⟨rfl, rfl⟩
  · have e1 : (decide ((0 : Int) ≤ i)) = false := decide_eq_false h1
    have hrt : r = false := by rw [← hr]; exact decide_eq_false (fun q => h1 q.1)
    subst hrt
    clear hr
    go_wp2_with fail
    go_ret
    exact ⟨rfl, rfl⟩

set_option maxRecDepth 100000 in
set_option maxHeartbeats 4000000 in
theorem k_newChecker {S : Nat → Prop} (w : World) (l : List Dt) (a : Option Addr) (m cap : Nat) (hm : l.length = m) (hl : m ≤ 100000) (hlen : ∀ d ∈ l, d.s.length ≤ 1000000 ∧ d.vars.length ≤ 1000000) (hN : InC S w (.s l.length 4 (l.flatMap dtC)) (.slice a m cap)) :
    Calls Try.prog 54 #[.slice a m cap] w fun e w' => ∃ b1 b2 b3 n1, e = .returned (.agg #[.map (some b1), .map (some b2), .map (some b3)]) ∧ w.heap.size ≤ b1 ∧ b1 < b2 ∧ b2 < b3 ∧ SM w' b1 n1 (shapesL l) ∧ NM w' b2 2 [nInt, nBool] ∧ NM w' b3 0 [] ∧ Below w.heap.size w w' := by
  have hmm := @run_makeMap Try.prog
  have HC : Hid (∀ w', Below w.heap.size w w' → Calls Try.prog 101 #[.slice a m cap] w' fun e w'' => ∃ b n, e = .returned (.map (some b)) ∧ w'.heap.size ≤ b ∧ SM w'' b n (shapesL l) ∧ Below w'.heap.size w' w'') := fun w' hw => k_shapesOf w' l a m cap hm hl hlen (hN.under hw)
  clear hm hN hlen
  go_enter Try.func54, Try.ntmps54
  go_wp2_with (go_at_call 101; (with_reducible refine (HC.out _ ?_).mono ?_); (exact (Below.refl _ w).alloc (Nat.le_refl _) _); rintro e w1 ⟨b1, n1, rfl, hb1, hs1, hbw⟩; have hB1 : Below w.heap.size w w1 := (((Below.refl _ w).alloc (Nat.le_refl _) _).trans (hbw.mono (by simp))); have bx := (Box.new w 112 [.map none, .map none, .map none]).below hbw; have hn0 : NM (w1.alloc (.map #[] 0)) w1.heap.size 0 [] := ⟨_, World.ownsMap_made _ _ _ _, by simpa using ninv_nil⟩; obtain ⟨u1, r1, m1, g1, z1⟩ := NM.store1 hn0 (by omega) nInt (by decide) (by decide); obtain ⟨u2, r2, m2, g2, z2⟩ := NM.store1 m1 (by omega) nBool (by decide) (by decide); have ha : Below w.heap.size w (w1.alloc (.map #[] 0)) := hB1.alloc hB1.size _; have hwl := hB1.size; have k1 : Below w.heap.size w u1 := grown_below ha g1 hwl ha.size; have k2 : Below w.heap.size w u2 := grown_below k1 g2 hwl k1.size; have hs2 := hs1.below ((Below.refl _ w1).alloc (Nat.le_refl _) (.map #[] 0)); have hlt1 := hs1.lt; have hs3 := hs2.agree (grown_keep g1 hs2.lt (by omega)); have hs4 := hs3.agree (grown_keep g2 hs3.lt (by omega)); have by1 := ((bx.alloc (.map #[] 0)).grown g1 (fun q => by have := bx.lt; have := Option.some.inj q; omega)); have by2 := by1.grown g2 (fun q => by have := bx.lt; have := Option.some.inj q; omega); have HS4 := Lib.hid hs4; have HN4 : Hid (NM u2 w1.heap.size 2 [nInt, nBool]) := m2; have HB4 := Lib.hid k2; have hz : u2.heap.size = w1.heap.size + 1 := (by rw [z2, z1]; simp); have HZ := Lib.hid hz; have HBX := Lib.hid by2; have HW1 := Lib.hid hb1; have HLT := Lib.hid hlt1; have HWL := Lib.hid hwl; have r1' : Sem.run Try.prog (Instr.mapUpdate 84 (.map (some w1.heap.size)) (.string ⟨#[73, 110, 116]⟩) (.int .i64 1)) (w1.alloc (.map #[] 0)) = .ok () u1 := r1; have r2' : Sem.run Try.prog (Instr.mapUpdate 84 (.map (some w1.heap.size)) (.string ⟨#[66, 111, 111, 108]⟩) (.int .i64 1)) u1 = .ok () u2 := r2; obtain ⟨_, _, _, _, _, _⟩ := by2.three; have hwu : w.heap.size < u2.heap.size := by2.lt; clear r1 r2 m1 m2 g1 g2 z1 z2 ha hn0 k1 k2 hs1 hs2 hs3 hs4 by1 by2 bx hbw hB1 hz hb1 hlt1 hwl)
  refine bodyPost_ret (v := .agg #[.map (some b1), .map (some w1.heap.size), .map (some u2.heap.size)]) (by simp only [results, Try.results54]; go_simp <;> rfl) rfl ?_
  have hb1 := HW1.out
  have hlt := HLT.out
  have hwl := HWL.out
  rw [World.size_alloc] at hb1
  have hX : Below w.heap.size w (((u2.setCell ⟨w.heap.size, 0, none⟩ (.map (some b1))).setCell ⟨w.heap.size, 1, none⟩ (.map (some w1.heap.size))).setCell ⟨w.heap.size, 2, none⟩ (.map (some u2.heap.size))) := ((HB4.out.setCell (p := ⟨w.heap.size, 0, none⟩) (Nat.le_refl _) _).setCell (p := ⟨w.heap.size, 1, none⟩) (Nat.le_refl _) _).setCell (p := ⟨w.heap.size, 2, none⟩) (Nat.le_refl _) _
  have hkeep : ∀ b, b ≠ w.heap.size → (((u2.setCell ⟨w.heap.size, 0, none⟩ (.map (some b1))).setCell ⟨w.heap.size, 1, none⟩ (.map (some w1.heap.size))).setCell ⟨w.heap.size, 2, none⟩ (.map (some u2.heap.size))).heap[b]? = u2.heap[b]? := fun b hb => ((Below.heap_setCell _ ⟨w.heap.size, 2, none⟩ _ b hb).trans (Below.heap_setCell _ ⟨w.heap.size, 1, none⟩ _ b hb)).trans (Below.heap_setCell _ ⟨w.heap.size, 0, none⟩ _ b hb)
  have h3 : NM ((((u2.setCell ⟨w.heap.size, 0, none⟩ (.map (some b1))).setCell ⟨w.heap.size, 1, none⟩ (.map (some w1.heap.size))).setCell ⟨w.heap.size, 2, none⟩ (.map (some u2.heap.size))).alloc (.map #[] 0)) (((u2.setCell ⟨w.heap.size, 0, none⟩ (.map (some b1))).setCell ⟨w.heap.size, 1, none⟩ (.map (some w1.heap.size))).setCell ⟨w.heap.size, 2, none⟩ (.map (some u2.heap.size))).heap.size 0 [] := ⟨_, World.ownsMap_made _ _ _ _, by simpa using ninv_nil⟩
  rw [show (((u2.setCell ⟨w.heap.size, 0, none⟩ (.map (some b1))).setCell ⟨w.heap.size, 1, none⟩ (.map (some w1.heap.size))).setCell ⟨w.heap.size, 2, none⟩ (.map (some u2.heap.size))).heap.size = u2.heap.size from by simp] at h3
  exact ⟨b1, w1.heap.size, u2.heap.size, n1, rfl, by omega, by omega, by have := HZ.out; omega, (HS4.out.agree (hkeep b1 (by omega))).below ((Below.refl _ _).alloc (Nat.le_refl _) _), (HN4.out.agree (hkeep w1.heap.size (by omega))).below ((Below.refl _ _).alloc (Nat.le_refl _) _), h3, hX.alloc hX.size _⟩

set_option maxRecDepth 100000 in
set_option maxHeartbeats 4000000 in
theorem k_mayNode (b1 b2 b3 n1 : Nat) (sh : List (By × Nat)) (n : Nat) (k i : Int) (s : By) (kids : List Ty) (S : Nat → Prop) (v : Value) (w : World) (hs : SM w b1 n1 sh) (hv : IsV S w (tyC (.mk k i s kids)) v) (h1 : s.length ≤ 1000000) (h2 : kids.length ≤ 1000000) {r : Bool} (hr : nodeOk sh n k i s kids.length = r) :
    Calls Try.prog 138 #[.agg #[.map (some b1), .map (some b2), .map (some b3)], v, .int .i64 (n : Int)] w fun e w' => e = .returned (.bool r) ∧ Below w.heap.size w w' := by
  obtain ⟨a, c, rfl, hk⟩ := hv.ty
  obtain ⟨m, hm⟩ : ∃ m, kids.length = m := ⟨_, rfl⟩
  rw [hm] at hk hr h2 ⊢
  obtain ⟨z, hz⟩ : ∃ z, strB s = z := ⟨_, rfl⟩
  have hb0 : Below w.heap.size w ((w.alloc (.cells #[.map (some b1), .map (some b2), .map (some b3)] 112)).alloc (.cells #[.int .i64 k, .int .i64 i, .string z, .slice a m c] 63)) := ((Below.refl _ w).alloc (Nat.le_refl _) _).alloc (by simp) _
  have hlook := (hs.below hb0).look (s, m) ⟨h1, h2⟩
  have hlook' : Sem.run Try.prog (Instr.lookup 110 (.map (some b1)) (.agg #[.string z, .int .i64 (m : Int)]) false) ((w.alloc (.cells #[.map (some b1), .map (some b2), .map (some b3)] 112)).alloc (.cells #[.int .i64 k, .int .i64 i, .string z, .slice a m c] 63)) = .ok (.int .i64 (if (s, m) ∈ sh then 1 else 0)) ((w.alloc (.cells #[.map (some b1), .map (some b2), .map (some b3)] 112)).alloc (.cells #[.int .i64 k, .int .i64 i, .string z, .slice a m c] 63)) := by
    rw [← hz]; rw [← hz] at hlook; exact hlook
  rw [hz]
  have HB0 := Lib.hid hb0
  have HP := Lib.hid (fun w => k_isPlace i n w rfl)
  clear hs hv hk hm hz hlook hb0
  by_cases hk1 : k = 1
  · subst hk1
    have hrr : decide (0 ≤ i ∧ i < (n : Int)) = r := by rw [← hr]; unfold nodeOk; rw [if_pos rfl]
    rw [hrr] at HP
    clear hr hlook' hrr
    go_enter Try.func138, Try.ntmps138
    go_wp2_with (go_at_call 57; refine (HP.out _).mono ?_; rintro e w' ⟨rfl, hw⟩; have hw := hw.symm; subst hw)
    go_ret
    exact ⟨rfl, HB0.out⟩
  · have e1 : (k == 1) = false := beq_false_of_ne hk1
    by_cases hk2 : k = 2
    · subst hk2
      by_cases hin : (s, m) ∈ sh
      · have hrt : r = true := by rw [← hr]; unfold nodeOk; simp [hin]
        subst hrt
        rw [if_pos hin] at hlook'
        clear hr hin
        go_enter Try.func138, Try.ntmps138
        go_wp2_with fail
        go_ret
        exact ⟨rfl, HB0.out⟩
      · have hrt : r = false := by rw [← hr]; unfold nodeOk; simp [hin]
        subst hrt
        rw [if_neg hin] at hlook'
        clear hr hin
        go_enter Try.func138, Try.ntmps138
        go_wp2_with fail
        go_ret
        exact ⟨rfl, HB0.out⟩
    · have e2 : (k == 2) = false := beq_false_of_ne hk2
      have hrt : r = false := by rw [← hr]; unfold nodeOk; rw [if_neg hk1, if_neg hk2]
      subst hrt
      clear hr hlook'
      go_enter Try.func138, Try.ntmps138
      go_wp2_with fail
      go_ret
      exact ⟨rfl, HB0.out⟩

end Go.Proofs.Ytjfogodfpmfhhaa

namespace Go.Proofs.Ytjfogodfpmfhhaa
open Go.RowKit Go.Maps
set_option linter.unusedVariables false
set_option linter.unusedSimpArgs false

def MayT (x : Ty) : Prop := ∀ (b1 b2 b3 n1 : Nat) (sh : List (By × Nat)) (n : Nat) (S : Nat → Prop) (a : Option Addr) (m c : Nat) (w : World), tyFit x → SM w b1 n1 sh → (match x with | .mk _ _ _ kids => InC S w (.s kids.length 4 (tysC kids)) (.slice a m c)) → Calls Try.prog 104 #[.agg #[.map (some b1), .map (some b2), .map (some b3)], .slice a m c, .int .i64 (n : Int)] w fun e w' => e = .returned (.bool (match x with | .mk _ _ _ kids => tysOk sh n kids)) ∧ Below w.heap.size w w'

set_option maxRecDepth 100000 in
set_option maxHeartbeats 8000000 in
theorem k_mayTypes_step (l : List Ty) (hX : ∀ x ∈ l, MayT x) (b1 b2 b3 n1 : Nat) (sh : List (By × Nat)) (n : Nat) (S : Nat → Prop) (a : Option Addr) (m c : Nat) (w : World) (hf : tysFit l) (hs : SM w b1 n1 sh) (hk : InC S w (.s l.length 4 (tysC l)) (.slice a m c)) :
    Calls Try.prog 104 #[.agg #[.map (some b1), .map (some b2), .map (some b3)], .slice a m c, .int .i64 (n : Int)] w fun e w' => e = .returned (.bool (tysOk sh n l)) ∧ Below w.heap.size w w' := by
  have hLm := hk.max_len
  have e2 := hk.at_.1
  rw [← e2] at hLm
  rw [tysC_eq] at hk
  obtain ⟨r, hr⟩ : ∃ r, tysOk sh n l = r := ⟨_, rfl⟩
  rw [hr]
  have HR : Hid (l.all (tyOk sh n) = r) := by rw [tysOk_all] at hr; exact hr
  have HK := Lib.hid hk
  have HS := Lib.hid hs
  have HM := Lib.hid e2
  have HX := Lib.hid hX
  have HF := Lib.hid hf
  have HBX0 := Lib.hid (Box.new w 112 [.map (some b1), .map (some b2), .map (some b3)])
  have HB0 : Hid (Below w.heap.size w (w.alloc (.cells #[.map (some b1), .map (some b2), .map (some b3)] 112))) := (Below.refl _ w).alloc (Nat.le_refl _) _
  clear hk e2 hX hf hs hr
  go_enter Try.func104, Try.ntmps104
  go_wp2_with fail
  obtain ⟨W2, hW2⟩ : ∃ W2, w.alloc (.cells #[.map (some b1), .map (some b2), .map (some b3)] 112) = W2 := ⟨_, rfl⟩
  rw [show (w.alloc (.cells ([.map (some b1), .map (some b2), .map (some b3)] : List Value).toArray 112)) = W2 from hW2] at HBX0
  rw [hW2] at HB0 ⊢
  clear hW2
  go_loopw [11] (fun iv wr => ∃ i : Nat, i ≤ m ∧ iv = .int .i64 (i : Int) ∧ Hid ((l.take i).all (tyOk sh n) = true) ∧ Hid (Below W2.heap.size W2 wr)) (fun iv _ => m - (intOf iv).toNat)
  case atStart => exact ⟨0, Nat.zero_le _, rfl, Lib.hid (by simp), Below.refl _ _⟩
  case round =>
    obtain ⟨i, hi, rfl, HA, HB⟩ := hrel
    have HBO : Hid (Below w.heap.size w wr) := HB0.out.trans (HB.out.mono HB0.out.size)
    by_cases hlt : i < m
    · obtain ⟨x, hx⟩ : ∃ x, l[i]? = some x := ⟨_, List.getElem?_eq_getElem (by rw [← HM.out]; exact hlt)⟩
      obtain ⟨b, off, us, rfl, hb, hxv, hc⟩ := HK.out.elem tyC_len hx
      have hxm := List.mem_of_getElem? hx
      have hfx := tysFit_mem HF.out hxm
      have hmx := HX.out x hxm
      have htk : (l.take (i + 1)).all (tyOk sh n) = tyOk sh n x := by rw [List.take_add_one, hx]; simp only [Option.toList, List.all_append, HA.out]; simp
      have hall : tyOk sh n x = false → r = false := fun h => by
        rw [← HR.out, List.all_eq_false]
        exact ⟨x, hxm, by simp [h]⟩
      obtain ⟨k, j, s, kids⟩ := x
      obtain ⟨a2, c2, hz9, hkk⟩ := hxv.ty
      obtain rfl := agg_inj hz9
      simp only [tyFit] at hfx
      obtain ⟨hf1, hf2, hf3⟩ := hfx
      have hbw : b < wr.heap.size := by have := HBO.out.size; omega
      have hcc : ∀ (o : Nat) (u : Value), ([.int .i64 k, .int .i64 j, .string (strB s), .slice a2 kids.length c2] : List Value)[o]? = some u → wr.cell? ⟨b, off + (i * 4 + o), none⟩ = some u := fun o u hu => (HBO.out.cell (p := ⟨b, off + (i * 4 + o), none⟩) hb).trans (hc o u hu)
      have q0 := hcc 0 _ rfl
      have q1 := hcc 1 _ rfl
      have q2 := hcc 2 _ rfl
      have q3 := hcc 3 _ rfl
      rw [← Nat.add_assoc] at q0 q1 q2 q3
      rw [Nat.add_zero] at q0
      have T1 : ∀ W, Sem.run Try.prog (Instr.indexAt 57 (.slice (some ⟨b, off, none⟩) m c) (.int .i64 (i : Int))) W = .ok (.pointer (some ⟨b, off + i * 4, none⟩)) W := fun W => by go_simp
      obtain ⟨r1, hr1⟩ : ∃ r1, nodeOk sh n k j s kids.length = r1 := ⟨_, rfl⟩
      obtain ⟨r2, hr2⟩ : ∃ r2, tysOk sh n kids = r2 := ⟨_, rfl⟩
      have hr3 : tyOk sh n (.mk k j s kids) = (r1 && r2) := by simp only [tyOk]; rw [hr1, hr2]
      rw [hr3] at htk hall
      have HN : Hid (∀ w', Below wr.heap.size wr w' → Calls Try.prog 138 #[.agg #[.map (some b1), .map (some b2), .map (some b3)], .agg #[.int .i64 k, .int .i64 j, .string (strB s), .slice a2 kids.length c2], .int .i64 (n : Int)] w' fun e w'' => e = .returned (.bool r1) ∧ Below w'.heap.size w' w'') := fun w' hw' => by
        have h9 := HBO.out.trans (hw'.mono HBO.out.size)
        exact k_mayNode b1 b2 b3 n1 sh n k j s kids S _ w' (HS.out.below h9) (hxv.under h9) hf1 hf2 hr1
      have HT : Hid (∀ w', Below wr.heap.size wr w' → Calls Try.prog 104 #[.agg #[.map (some b1), .map (some b2), .map (some b3)], .slice a2 kids.length c2, .int .i64 (n : Int)] w' fun e w'' => e = .returned (.bool r2) ∧ Below w'.heap.size w' w'') := fun w' hw' => by
        have h9 := HBO.out.trans (hw'.mono HBO.out.size)
        have := hmx b1 b2 b3 n1 sh n S a2 kids.length c2 w' (by simp only [tyFit]; exact ⟨hf1, hf2, hf3⟩) (HS.out.below h9) (hkk.under h9)
        dsimp only at this
        rw [hr2] at this
        exact this
      have HTK := Lib.hid htk
      have HALL := Lib.hid hall
      obtain ⟨nk, hnk⟩ : ∃ nk, kids.length = nk := ⟨_, rfl⟩
      rw [hnk] at HN HT q3
      obtain ⟨z, hz⟩ : ∃ z, strB s = z := ⟨_, rfl⟩
      rw [hz] at HN q2
      have hcb := HBX0.out.below HB.out
      have HCB := Lib.hid hcb
      have hcbl := hcb.lt
      obtain ⟨_, _, _, _, _, _⟩ := hcb.three
      have HBa : Hid (Below wr.heap.size wr (wr.alloc (.cells #[.int .i64 k, .int .i64 j, .string z, .slice a2 nk c2] 63))) := (Below.refl _ wr).alloc (Nat.le_refl _) _
      have HBX := Lib.hid (Box.new wr 63 [.int .i64 k, .int .i64 j, .string z, .slice a2 nk c2])
      clear hcc hc hxv hx hxm hmx htk hall hkk hr1 hr2 hr3 hnk hz hcb hf1 hf2 hf3
      cases r1 with
      | false =>
        have hrf : r = false := HALL.out rfl
        subst hrf
        go_wp2_with (go_at_call 138; (with_reducible refine (HN.out _ HBa.out).mono ?_); rintro e wz ⟨rfl, hbz⟩; have HBZ := Lib.hid (HBa.out.trans (hbz.mono HBa.out.size)); clear hbz)
        go_ret
        exact ⟨rfl, HBO.out.trans (HBZ.out.mono HBO.out.size)⟩
      | true =>
        cases r2 with
        | false =>
          have hrf : r = false := HALL.out rfl
          subst hrf
          go_wp2_with (first
            | (go_at_call 138; (with_reducible refine (HN.out _ HBa.out).mono ?_); rintro e wz ⟨rfl, hbz⟩; have HBZ := Lib.hid (HBa.out.trans (hbz.mono HBa.out.size)); have hy1 := HBX.out.below hbz; obtain ⟨_, _, _, _⟩ := four_cells hy1; have hl3 := hy1.lt; have hy2 := HCB.out.below HBZ.out; obtain ⟨_, _, _, _, _, _⟩ := hy2.three; have hl4 := hy2.lt; clear hbz hy1 hy2)
            | (go_at_call 104; (with_reducible refine (HT.out _ HBZ.out).mono ?_); rintro e wt ⟨rfl, hbt⟩; have HBT := Lib.hid (HBZ.out.trans (hbt.mono HBZ.out.size)); clear hbt))
          go_ret
          exact ⟨rfl, HBO.out.trans (HBT.out.mono HBO.out.size)⟩
        | true =>
          go_wp2_with (first
            | (go_at_call 138; (with_reducible refine (HN.out _ HBa.out).mono ?_); rintro e wz ⟨rfl, hbz⟩; have HBZ := Lib.hid (HBa.out.trans (hbz.mono HBa.out.size)); have hy1 := HBX.out.below hbz; obtain ⟨_, _, _, _⟩ := four_cells hy1; have hl3 := hy1.lt; have hy2 := HCB.out.below HBZ.out; obtain ⟨_, _, _, _, _, _⟩ := hy2.three; have hl4 := hy2.lt; clear hbz hy1 hy2)
            | (go_at_call 104; (with_reducible refine (HT.out _ HBZ.out).mono ?_); rintro e wt ⟨rfl, hbt⟩; have HBT := Lib.hid (HBZ.out.trans (hbt.mono HBZ.out.size)); clear hbt))
          go_roundw
          case rel => exact ⟨i + 1, by omega, by go_num, by show _ = _; rw [HTK.out]; rfl, HB.out.trans (HBT.out.mono HB.out.size)⟩
          case measure => simp [intOf]; omega
    · have him : i = m := by omega
      subst him
      have hrt : r = true := by
        rw [← HR.out]
        have := HA.out
        rwa [List.take_of_length_le (by rw [← HM.out]; exact Nat.le_refl _)] at this
      subst hrt
      go_wp2_with fail
      go_ret
      exact ⟨rfl, HBO.out⟩
theorem mayT_all : ∀ (d : Nat) (x : Ty), x.deep ≤ d → MayT x
  | 0, .mk k i s kids, h => by simp only [Ty.deep] at h; omega
  | d + 1, .mk k i s kids, h => fun b1 b2 b3 n1 sh n S a m c w hf hs hk => by
    simp only [tyFit] at hf
    exact k_mayTypes_step kids (fun x hx => mayT_all d x (by have := Ty.deeps_mem hx; simp only [Ty.deep] at h; omega)) b1 b2 b3 n1 sh n S a m c w hf.2.2 hs hk
theorem k_mayTypes (l : List Ty) (b1 b2 b3 n1 : Nat) (sh : List (By × Nat)) (n : Nat) (S : Nat → Prop) (a : Option Addr) (m c : Nat) (w : World) (hf : tysFit l) (hs : SM w b1 n1 sh) (hk : InC S w (.s l.length 4 (tysC l)) (.slice a m c)) :
    Calls Try.prog 104 #[.agg #[.map (some b1), .map (some b2), .map (some b3)], .slice a m c, .int .i64 (n : Int)] w fun e w' => e = .returned (.bool (tysOk sh n l)) ∧ Below w.heap.size w w' :=
  k_mayTypes_step l (fun x _ => mayT_all x.deep x (Nat.le_refl _)) b1 b2 b3 n1 sh n S a m c w hf hs hk

end Go.Proofs.Ytjfogodfpmfhhaa

namespace Go.Proofs.Ytjfogodfpmfhhaa
open Go.RowKit Go.Maps
set_option linter.unusedVariables false
set_option linter.unusedSimpArgs false

set_option maxRecDepth 100000 in
set_option maxHeartbeats 4000000 in
theorem k_mayBegin (b1 b2 b3 n2 : Nat) (seen : List By) (d : Dt) (S : Nat → Prop) (v : Value) (w : World) (hn : NM w b2 n2 seen) (hn2 : n2 ≤ 1000000) (hsl : seen.length ≤ 1000000) (hv : IsV S w (dtC d) v) (hS : ∀ b, S b → b ≠ b2) (h1 : d.s.length ≤ 1000000) (h2 : d.vars.length ≤ 1000000) (h3 : ∀ s ∈ d.vars, s.length ≤ 1000000) {r : Bool} (hr : decide (d.s ∉ seen ∧ d.vars.Nodup) = r) :
    Calls Try.prog 55 #[.agg #[.map (some b1), .map (some b2), .map (some b3)], v] w fun e w' => e = .returned (.bool r) ∧ NM w' b2 (n2 + 1) (seen ++ [d.s]) ∧ Out (fun b => b = b2) w w' := by
  obtain ⟨a1, a2, c1, c2, rfl, hvs, hcs⟩ := hv.dtp
  have hb2 := hn.lt
  have hb0 : Below w.heap.size w ((w.alloc (.cells #[.map (some b1), .map (some b2), .map (some b3)] 112)).alloc (.cells #[.string (strB d.s), .int .i64 d.p, .slice a1 d.vars.length c1, .slice a2 d.cons.length c2] 56)) := ((Below.refl _ w).alloc (Nat.le_refl _) _).alloc (by simp) _
  have hbx : Box ((w.alloc (.cells #[.map (some b1), .map (some b2), .map (some b3)] 112)).alloc (.cells #[.string (strB d.s), .int .i64 d.p, .slice a1 d.vars.length c1, .slice a2 d.cons.length c2] 56)) (w.heap.size + 1) 56 [.string (strB d.s), .int .i64 d.p, .slice a1 d.vars.length c1, .slice a2 d.cons.length c2] := box_two
  obtain ⟨q, hq⟩ : ∃ q, decide (d.s ∉ seen) = q := ⟨_, rfl⟩
  obtain ⟨q2, hq2⟩ : ∃ q2, decide d.vars.Nodup = q2 := ⟨_, rfl⟩
  have hrr : r = (q && q2) := by rw [← hr, ← hq, ← hq2]; simp
  subst hrr
  have HN := Lib.hid (hn.below hb0)
  have HC := Lib.hid (fun w' (h : NM w' b2 n2 seen) => k_isNew w' b2 n2 seen d.s h hn2 hsl h1 hq)
  have HB0 := Lib.hid hb0
  have HBX := Lib.hid hbx
  have HA : Hid (∀ w', InC S w' (.s d.vars.length 1 (strsC d.vars)) (.slice a1 d.vars.length c1) → Calls Try.prog 103 #[.slice a1 d.vars.length c1] w' fun e w'' => e = .returned (.bool q2) ∧ Below w'.heap.size w' w'') := fun w' h => k_allNew w' d.vars a1 d.vars.length c1 rfl h2 h3 h hq2
  have HV := Lib.hid (hvs.under hb0)
  clear hn hv hvs hcs hb0 hbx hr hq hq2
  obtain ⟨nv, hnv⟩ : ∃ nv, d.vars.length = nv := ⟨_, rfl⟩
  rw [hnv] at HA HV HB0 HBX HN ⊢
  clear hnv
  go_enter Try.func55, Try.ntmps55
  cases q with
  | false =>
    go_wp2_with (go_at_call 102; refine (HC.out _ HN.out).mono ?_; rintro e w9 ⟨rfl, hnm, hg, hsz⟩; have HN9 := Lib.hid hnm; have HO9 : Hid (Out (fun b => b = b2) w w9) := (Out.of_below HB0.out).grown hg (fun q hq => .inl (Option.some.inj hq).symm); clear hnm hg hsz)
    go_ret
    exact ⟨rfl, HN9.out, HO9.out⟩
  | true =>
    go_wp2_with (first
      | (go_at_call 102; refine (HC.out _ HN.out).mono ?_; rintro e w9 ⟨rfl, hnm, hg, hsz⟩; have HN9 := Lib.hid hnm; have HO9 : Hid (Out (fun b => b = b2) w w9) := (Out.of_below HB0.out).grown hg (fun q hq => .inl (Option.some.inj hq).symm); have hy := HBX.out.grown hg (fun q => by have := Option.some.inj q; omega); obtain ⟨_, _, _, _⟩ := four_cells hy; have hyl := hy.lt; have HV9 := Lib.hid (HV.out.agree (w' := w9) (S' := S) (fun b h1 h2 => ⟨h1, grown_keep hg h2 (hS b h1)⟩) (by omega)); clear hnm hg hsz hy)
      | (go_at_call 103; (refine (HA.out _ HV9.out).mono ?_); rintro e wz ⟨rfl, hbz⟩; have HZ := Lib.hid (HN9.out.below hbz); have HO := Lib.hid (HO9.out.next hbz); clear hbz))
    go_ret
    exact ⟨by simp, HZ.out, HO.out⟩

set_option maxRecDepth 100000 in
set_option maxHeartbeats 4000000 in
theorem k_mayCon (b1 b2 b3 n1 n3 : Nat) (sh : List (By × Nat)) (seen : List By) (n : Nat) (d : Cn) (S : Nat → Prop) (v : Value) (w : World) (hs : SM w b1 n1 sh) (hn : NM w b3 n3 seen) (hb13 : b1 ≠ b3) (hn3 : n3 ≤ 1000000) (hsl : seen.length ≤ 1000000) (hv : IsV S w (cnC d) v) (hS : ∀ b, S b → b ≠ b3) (h1 : d.s.length ≤ 1000000) (hf : tysFit d.args) {r : Bool} (hr : (decide (d.s ∉ seen) && tysOk sh n d.args) = r) :
    Calls Try.prog 56 #[.agg #[.map (some b1), .map (some b2), .map (some b3)], v, .int .i64 (n : Int)] w fun e w' => e = .returned (.bool r) ∧ NM w' b3 (n3 + 1) (seen ++ [d.s]) ∧ Out (fun b => b = b3) w w' := by
  obtain ⟨a1, c1, rfl, hts⟩ := hv.cn
  have hb3 := hn.lt
  have hb1 := hs.lt
  have hb0 : Below w.heap.size w ((w.alloc (.cells #[.map (some b1), .map (some b2), .map (some b3)] 112)).alloc (.cells #[.string (strB d.s), .int .i64 d.p, .slice a1 d.args.length c1] 59)) := ((Below.refl _ w).alloc (Nat.le_refl _) _).alloc (by simp) _
  have hbx : Box ((w.alloc (.cells #[.map (some b1), .map (some b2), .map (some b3)] 112)).alloc (.cells #[.string (strB d.s), .int .i64 d.p, .slice a1 d.args.length c1] 59)) (w.heap.size + 1) 59 [.string (strB d.s), .int .i64 d.p, .slice a1 d.args.length c1] := box_two
  have hby := ((Box.new w 112 [.map (some b1), .map (some b2), .map (some b3)]).alloc (.cells #[.string (strB d.s), .int .i64 d.p, .slice a1 d.args.length c1] 59))
  obtain ⟨q, hq⟩ : ∃ q, decide (d.s ∉ seen) = q := ⟨_, rfl⟩
  obtain ⟨q2, hq2⟩ : ∃ q2, tysOk sh n d.args = q2 := ⟨_, rfl⟩
  have hrr : r = (q && q2) := by rw [← hr, ← hq, ← hq2]
  subst hrr
  have HN := Lib.hid (hn.below hb0)
  have HC := Lib.hid (fun w' (h : NM w' b3 n3 seen) => k_isNew w' b3 n3 seen d.s h hn3 hsl h1 hq)
  have HB0 := Lib.hid hb0
  have HBX := Lib.hid hbx
  have HBY := Lib.hid hby
  have HS := Lib.hid (hs.below hb0)
  have HA : Hid (∀ w', SM w' b1 n1 sh → InC S w' (.s d.args.length 4 (tysC d.args)) (.slice a1 d.args.length c1) → Calls Try.prog 104 #[.agg #[.map (some b1), .map (some b2), .map (some b3)], .slice a1 d.args.length c1, .int .i64 (n : Int)] w' fun e w'' => e = .returned (.bool q2) ∧ Below w'.heap.size w' w'') := fun w' h h' => hq2 ▸ k_mayTypes d.args b1 b2 b3 n1 sh n S a1 d.args.length c1 w' hf h h'
  have HV := Lib.hid (hts.under hb0)
  clear hn hv hts hb0 hbx hby hr hq hq2 hs
  obtain ⟨nv, hnv⟩ : ∃ nv, d.args.length = nv := ⟨_, rfl⟩
  rw [hnv] at HA HV HB0 HBX HBY HN HS ⊢
  clear hnv
  go_enter Try.func56, Try.ntmps56
  cases q with
  | false =>
    go_wp2_with (go_at_call 102; refine (HC.out _ HN.out).mono ?_; rintro e w9 ⟨rfl, hnm, hg, hsz⟩; have HN9 := Lib.hid hnm; have HO9 : Hid (Out (fun b => b = b3) w w9) := (Out.of_below HB0.out).grown hg (fun q hq => .inl (Option.some.inj hq).symm); clear hnm hg hsz)
    go_ret
    exact ⟨rfl, HN9.out, HO9.out⟩
  | true =>
    go_wp2_with (first
      | (go_at_call 102; refine (HC.out _ HN.out).mono ?_; rintro e w9 ⟨rfl, hnm, hg, hsz⟩; have HN9 := Lib.hid hnm; have HO9 : Hid (Out (fun b => b = b3) w w9) := (Out.of_below HB0.out).grown hg (fun q hq => .inl (Option.some.inj hq).symm); have hy := HBX.out.grown hg (fun q => by have := Option.some.inj q; omega); obtain ⟨_, _, _, _, _, _⟩ := hy.three; have hyl := hy.lt; have hz := HBY.out.grown hg (fun q => by have := Option.some.inj q; omega); obtain ⟨_, _, _, _, _, _⟩ := hz.three; have hzl := hz.lt; have HS9 := Lib.hid (HS.out.agree (grown_keep hg HS.out.lt hb13)); have HV9 := Lib.hid (HV.out.agree (w' := w9) (S' := S) (fun b h1 h2 => ⟨h1, grown_keep hg h2 (hS b h1)⟩) (by omega)); clear hnm hg hsz hy hz)
      | (go_at_call 104; (refine (HA.out _ HS9.out HV9.out).mono ?_); rintro e wz ⟨rfl, hbz⟩; have HZ := Lib.hid (HN9.out.below hbz); have HO := Lib.hid (HO9.out.next hbz); clear hbz))
    go_ret
    exact ⟨by simp, HZ.out, HO.out⟩

end Go.Proofs.Ytjfogodfpmfhhaa

namespace Go.Proofs.Ytjfogodfpmfhhaa
open Go.RowKit Go.Maps
set_option linter.unusedVariables false
set_option linter.unusedSimpArgs false

/-- The place of the first Con that may not be. -/
def consCk (sh : List (By × Nat)) (n : Nat) : List By → List Cn → Option Int
  | _, [] => none
  | seen, c :: r => if (decide (c.s ∉ seen) && tysOk sh n c.args) = true then consCk sh n (seen ++ [c.s]) r else some c.p
/-- The place of the first declaration that may not be. -/
def datasCk (sh : List (By × Nat)) : List By → List By → List Dt → Option Int
  | _, _, [] => none
  | sd, sc, d :: r => if decide (d.s ∉ sd ∧ d.vars.Nodup) = true then
      (match consCk sh d.vars.length sc d.cons with
        | some p => some p
        | none => datasCk sh (sd ++ [d.s]) (sc ++ d.cons.map Cn.s) r)
    else some d.p
def checkL (l : List Dt) : Option Int := datasCk (shapesL l) [nInt, nBool] [] l
def conN : List Dt → Nat
  | [] => 0
  | d :: r => d.cons.length + conN r
def Dt.fit (d : Dt) : Prop := d.s.length ≤ 1000000 ∧ d.vars.length ≤ 1000000 ∧ (∀ s ∈ d.vars, s.length ≤ 1000000) ∧ ∀ c ∈ d.cons, c.s.length ≤ 1000000 ∧ tysFit c.args
def chkE : Option Int → Int
  | none => 0
  | some _ => 6
theorem drop_cons {α : Type} {l : List α} {k : Nat} {x : α} (h : l[k]? = some x) : l.drop k = x :: l.drop (k + 1) := by
  obtain ⟨h1, h2⟩ := List.getElem?_eq_some_iff.1 h
  rw [List.drop_eq_getElem_cons h1, h2]

set_option maxRecDepth 100000 in
set_option maxHeartbeats 16000000 in
theorem k_Check {S0 : Nat → Prop} (w : World) (l : List Dt) (a : Option Addr) (m cap : Nat) (hm : l.length = m) (hl : m ≤ 100000) (hlen : ∀ d ∈ l, d.fit) (hcn : conN l ≤ 900000) (hN0 : InC S0 w (.s l.length 4 (l.flatMap dtC)) (.slice a m cap)) {R : Option Int} (hR : checkL l = R) :
    Calls Try.prog 24 #[.slice a m cap] w fun e w' => e = .returned (.tuple #[.int .i64 (chkE R), .int .i64 (R.getD 0)]) ∧ Below w.heap.size w w' := by
  have hN : InC (fun b => b < w.heap.size) w (.s l.length 4 (l.flatMap dtC)) (.slice a m cap) := hN0.mono (fun b h _ => h)
  obtain ⟨sh, hsh⟩ : ∃ sh, shapesL l = sh := ⟨_, rfl⟩
  have HRR : Hid (datasCk sh [nInt, nBool] [] l = R) := by show _ = _; rw [← hR, ← hsh]; rfl
  have HC := Lib.hid (k_newChecker w l a m cap hm hl (fun d hd => ⟨(hlen d hd).1, (hlen d hd).2.1⟩) hN)
  rw [hsh] at HC
  have HN := Lib.hid hN
  have HM := Lib.hid hm
  have HL := Lib.hid hlen
  obtain ⟨E, hE⟩ : ∃ E, chkE R = E := ⟨_, rfl⟩
  obtain ⟨A, hA⟩ : ∃ A, R.getD 0 = A := ⟨_, rfl⟩
  rw [hE, hA]
  have HE := Lib.hid hE
  have HAA := Lib.hid hA
  have HCN := Lib.hid hcn
  clear hm hlen hN0 hN hR hsh hE hA hcn
  go_enter Try.func24, Try.ntmps24
  go_wp2_with (go_at_call 54; refine (HC.out).mono ?_; rintro e w1 ⟨b1, b2, b3, n1, rfl, h1, h2, h3, hs, hn2, hn3, hb⟩; have HS1 := Lib.hid hs; have HN2 := Lib.hid hn2; have HN3 := Lib.hid hn3; have HB1 := Lib.hid hb; clear hs hn2 hn3 hb HC)
  have HBX0 := Lib.hid (Box.new w1 112 [.map (some b1), .map (some b2), .map (some b3)])
  have hba : Below w1.heap.size w1 (w1.alloc (.cells #[.map (some b1), .map (some b2), .map (some b3)] 112)) := (Below.refl _ w1).alloc (Nat.le_refl _) _
  replace HS1 := Lib.hid (HS1.out.below hba)
  have hb3l := HN3.out.lt
  replace HN2 := Lib.hid (HN2.out.below hba)
  replace HN3 := Lib.hid (HN3.out.below hba)
  have HB0 : Hid (Below w.heap.size w (w1.alloc (.cells #[.map (some b1), .map (some b2), .map (some b3)] 112))) := HB1.out.trans (hba.mono HB1.out.size)
  obtain ⟨W0, hW0⟩ : ∃ W0, w1.alloc (.cells #[.map (some b1), .map (some b2), .map (some b3)] 112) = W0 := ⟨_, rfl⟩
  rw [show (w1.alloc (.cells ([.map (some b1), .map (some b2), .map (some b3)] : List Value).toArray 112)) = W0 from hW0] at HBX0
  rw [hW0] at HB0 HS1 HN2 HN3
  try rw [hW0]
  obtain ⟨tb, htb⟩ : ∃ tb, w1.heap.size = tb := ⟨_, rfl⟩
  rw [htb] at HBX0 hb3l
  try rw [htb]
  clear hba hW0 htb HB1
  go_loopw [13] (fun iv wr => ∃ (k n3 : Nat) (sd sc : List By), k ≤ m ∧ iv = .int .i64 (k : Int) ∧ sd.length = 2 + k ∧ sc.length = n3 ∧ n3 + conN (l.drop k) ≤ 900000 ∧ Hid (datasCk sh sd sc (l.drop k) = R) ∧ Hid (NM wr b2 (2 + k) sd) ∧ Hid (NM wr b3 n3 sc) ∧ Hid (Out (fun b => b = b2 ∨ b = b3) W0 wr)) (fun iv _ => m - (intOf iv).toNat)
  case atStart => exact ⟨0, 0, [nInt, nBool], [], Nat.zero_le _, rfl, rfl, rfl, by simpa using HCN.out, by simpa using HRR, HN2, HN3, Out.refl _ _⟩
  case round =>
    obtain ⟨k, n3, sd, sc, hk, rfl, hsd, hsc, hcn, HR, HNb, HNc, HO⟩ := hrel
    clear HRR HN2 HN3
    obtain ⟨wo, rfl⟩ : ∃ wo, wo = wr := ⟨wr, rfl⟩
    have HBW : Hid (Below w.heap.size w wo) := HB0.out.trans (HO.out.below HB0.out.size (fun q hq => by show ¬ (q = b2 ∨ q = b3); omega))
    have hcb := HO.out.box HBX0.out (show ¬ (_ = b2 ∨ _ = b3) by omega)
    have HCB := Lib.hid hcb
    have hcbl := hcb.lt
    have HSM := Lib.hid (HS1.out.agree (HO.out.block b1 HS1.out.lt (show ¬ (b1 = b2 ∨ b1 = b3) by omega)))
    by_cases hlt : k < m
    · obtain ⟨d, hd⟩ : ∃ d, l[k]? = some d := ⟨_, List.getElem?_eq_getElem (by rw [HM.out]; exact hlt)⟩
      obtain ⟨hf1, hf2, hf3, hf4⟩ := HL.out d (List.mem_of_getElem? hd)
      have hdr := drop_cons hd
      rw [hdr] at hcn
      have HRD : Hid (datasCk sh sd sc (d :: l.drop (k + 1)) = R) := by rw [← hdr]; exact HR
      obtain ⟨b, off, us, rfl, hb, hxv, hc⟩ := HN.out.elem dtC_len hd
      have hxv2 := hxv
      obtain ⟨a1, a2, c1, c2, hz9, hvs, hcs⟩ := hxv.dtp
      obtain rfl := agg_inj hz9
      have hbw : b < wo.heap.size := by have := HBW.out.size; omega
      have hcc : ∀ (j : Nat) (u : Value), ([.string (strB d.s), .int .i64 d.p, .slice a1 d.vars.length c1, .slice a2 d.cons.length c2] : List Value)[j]? = some u → wo.cell? ⟨b, off + (k * 4 + j), none⟩ = some u := fun j u hu => (HBW.out.cell (p := ⟨b, off + (k * 4 + j), none⟩) hb).trans (hc j u hu)
      have q0 := hcc 0 _ rfl
      have q1 := hcc 1 _ rfl
      have q2 := hcc 2 _ rfl
      have q3 := hcc 3 _ rfl
      rw [← Nat.add_assoc] at q0 q1 q2 q3
      rw [Nat.add_zero] at q0
      have T1 : ∀ W, Sem.run Try.prog (Instr.indexAt 25 (.slice (some ⟨b, off, none⟩) m cap) (.int .i64 (k : Int))) W = .ok (.pointer (some ⟨b, off + k * 4, none⟩)) W := fun W => by go_simp
      obtain ⟨r1, hr1⟩ : ∃ r1, decide (d.s ∉ sd ∧ d.vars.Nodup) = r1 := ⟨_, rfl⟩
      have HMB : Hid (∀ w', Below wo.heap.size wo w' → NM w' b2 (2 + k) sd → Calls Try.prog 55 #[.agg #[.map (some b1), .map (some b2), .map (some b3)], .agg #[.string (strB d.s), .int .i64 d.p, .slice a1 d.vars.length c1, .slice a2 d.cons.length c2]] w' fun e w'' => e = .returned (.bool r1) ∧ NM w'' b2 (2 + k + 1) (sd ++ [d.s]) ∧ Out (fun b => b = b2) w' w'') := fun w' hw' hnm => by
        have h9 := HBW.out.trans (hw'.mono HBW.out.size)
        exact k_mayBegin b1 b2 b3 (2 + k) sd d _ _ w' hnm (by omega) (by omega) (hxv2.under h9) (fun q hq => by have hq' : q < w.heap.size := hq; omega) hf1 hf2 hf3 hr1
      have HCS := Lib.hid hcs
      have HF4 := Lib.hid hf4
      have HR1 := Lib.hid hr1
      obtain ⟨nv, hnv⟩ : ∃ nv, d.vars.length = nv := ⟨_, rfl⟩
      obtain ⟨L, hL⟩ : ∃ L, d.cons = L := ⟨_, rfl⟩
      obtain ⟨nc, hnc⟩ : ∃ nc, L.length = nc := ⟨_, rfl⟩
      obtain ⟨SX, hSX⟩ : ∃ SX, strB d.s = SX := ⟨_, rfl⟩
      have hcn' : n3 + (L.length + conN (l.drop (k + 1))) ≤ 900000 := by rw [← hL]; exact hcn
      have hncb : nc ≤ 900000 := by omega
      rw [hL, hnc] at HMB HCS q3
      rw [hL] at HF4
      rw [hnv] at HMB q2
      rw [hSX] at HMB q0
      have HNV := Lib.hid hnv
      have HLL := Lib.hid hL
      have HNC := Lib.hid hnc
      have HBa : Hid (Below wo.heap.size wo (wo.alloc (.cells #[.string SX, .int .i64 d.p, .slice a1 nv c1, .slice a2 nc c2] 56))) := (Below.refl _ wo).alloc (Nat.le_refl _) _
      have HBX := Lib.hid (Box.new wo 56 [.string SX, .int .i64 d.p, .slice a1 nv c1, .slice a2 nc c2])
      have HNa := Lib.hid (HNb.out.below HBa.out)
      obtain ⟨_, _, _, _, _, _⟩ := hcb.three
      have hb2w := HNb.out.lt
      have hb3w := HNc.out.lt
      clear hcc hc hxv hxv2 hd hvs hcs hf1 hf2 hf3 hf4 hdr hcb hr1 hcn hnv hL hnc hSX
      cases r1 with
      | false =>
        have hRR : R = some d.p := by rw [← HRD.out]; simp only [datasCk]; rw [HR1.out]; rfl
        have he : E = 6 := by rw [← HE.out, hRR]; rfl
        have ha : A = d.p := by rw [← HAA.out, hRR]; rfl
        subst he
        subst ha
        go_wp2_with (go_at_call 55; refine (HMB.out _ HBa.out HNa.out).mono ?_; rintro e w9 ⟨rfl, hnm, ho⟩; have hy := ho.box HBX.out (show ¬ (_ = b2) by omega); obtain ⟨_, _, _, _⟩ := four_cells hy; have hyl := hy.lt; have HO9 := Lib.hid ho; clear hnm ho hy)
        go_quiet (fail)
        go_wp2_with fail
        refine bodyPost_ret (v := .tuple #[.int .i64 6, .int .i64 d.p]) (by simp only [results, Try.results24]; go_simp <;> rfl) rfl ⟨rfl, ?_⟩
        exact below_drN ((HBW.out.trans (HBa.out.mono HBW.out.size)).trans (HO9.out.below (Nat.le_trans HBW.out.size HBa.out.size) (fun q hq => by show ¬ (q = b2); omega))) _
      | true =>
        have HRE : Hid ((match consCk sh nv (sc ++ (L.take 0).map Cn.s) (L.drop 0) with
            | some p => some p
            | none => datasCk sh (sd ++ [d.s]) (sc ++ L.map Cn.s) (l.drop (k + 1))) = R) := by
          show _ = _
          rw [← HRD.out]
          simp only [datasCk]
          rw [if_pos HR1.out, HNV.out, HLL.out]
          simp
        clear HRD HR1
        go_wp2_with (go_at_call 55; refine (HMB.out _ HBa.out HNa.out).mono ?_; rintro e w9 ⟨rfl, hnm, ho⟩; have hy := ho.box HBX.out (show ¬ (_ = b2) by omega); obtain ⟨_, _, _, _⟩ := four_cells hy; have hyl := hy.lt; have HYD := Lib.hid hy; have HND := Lib.hid hnm; have HO9 := Lib.hid ho; clear hnm ho hy HMB)
        have HB9 : Hid (Below w.heap.size w w9) := (HBW.out.trans (HBa.out.mono HBW.out.size)).trans (HO9.out.below (Nat.le_trans HBW.out.size HBa.out.size) (fun q hq => by show ¬ (q = b2); omega))
        have HSM9 := Lib.hid ((HSM.out.below HBa.out).agree (HO9.out.block b1 (HSM.out.below HBa.out).lt (show ¬ (b1 = b2) by omega)))
        have HNc9 := Lib.hid ((HNc.out.below HBa.out).agree (HO9.out.block b3 (HNc.out.below HBa.out).lt (show ¬ (b3 = b2) by omega)))
        have HCB9 := Lib.hid (HO9.out.box (HCB.out.below HBa.out) (show ¬ (_ = b2) by omega))
        have HOO : Hid (Out (fun b => b = b2 ∨ b = b3) W0 w9) := (HO.out.trans (Out.of_below HBa.out)).trans (HO9.out.mono (fun q _ hq => .inl hq))
        obtain ⟨bd, hbd⟩ : ∃ bd, wo.heap.size = bd := ⟨_, rfl⟩
        rw [hbd] at HYD hyl
        try rw [hbd]
        have hbd3 : b3 < bd := by omega
        clear hbd HO9 HBa HBX HNa HO HNb
        go_loopw [26] (fun iv wr => ∃ j : Nat, j ≤ nc ∧ iv = .int .i64 (j : Int) ∧ Hid ((match consCk sh nv (sc ++ (L.take j).map Cn.s) (L.drop j) with
            | some p => some p
            | none => datasCk sh (sd ++ [d.s]) (sc ++ L.map Cn.s) (l.drop (k + 1))) = R) ∧ Hid (NM wr b3 (n3 + j) (sc ++ (L.take j).map Cn.s)) ∧ Hid (Out (fun b => b = b3) w9 wr)) (fun iv _ => nc - (intOf iv).toNat)
        case atStart => exact ⟨0, Nat.zero_le _, rfl, HRE, by simpa using HNc9, Out.refl _ _⟩
        case round =>
          rename World => wr
          clear HRE
          obtain ⟨j, hj, rfl, HRE, HNJ, HOJ⟩ := hrel
          have hy1 := HOJ.out.box HYD.out (show ¬ (_ = b3) by omega)
          have hy2 := HOJ.out.box HCB9.out (show ¬ (_ = b3) by omega)
          have HBJ : Hid (Below w.heap.size w wr) := HB9.out.trans (HOJ.out.below HB9.out.size (fun q hq => by show ¬ (q = b3); omega))
          have HSJ := Lib.hid (HSM9.out.agree (HOJ.out.block b1 HSM9.out.lt (show ¬ (b1 = b3) by omega)))
          have HY1 := Lib.hid hy1
          have HY2 := Lib.hid hy2
          have hl1 := hy1.lt
          have hl2 := hy2.lt
          by_cases hlt2 : j < nc
          · obtain ⟨y, hyy⟩ : ∃ y, L[j]? = some y := ⟨_, List.getElem?_eq_getElem (by rw [HNC.out]; exact hlt2)⟩
            obtain ⟨hf1, hf2⟩ := HF4.out y (List.mem_of_getElem? hyy)
            have hk1 := HCS.out
            rw [← HNC.out] at hk1
            obtain ⟨g, o, us, rfl, hg, hyv, hcy⟩ := hk1.elem cnC_len hyy
            have hyv2 := hyv
            obtain ⟨d1, e1, hz9, _⟩ := hyv.cn
            obtain rfl := agg_inj hz9
            have hgw : g < wr.heap.size := by have := HBJ.out.size; omega
            have hj1 : j + 1 ≤ nc := hlt2
            have hcc : ∀ (q : Nat) (u : Value), ([.string (strB y.s), .int .i64 y.p, .slice d1 y.args.length e1] : List Value)[q]? = some u → wr.cell? ⟨g, o + (j * 3 + q), none⟩ = some u := fun q u hu => (HBJ.out.cell (p := ⟨g, o + (j * 3 + q), none⟩) hg).trans (hcy q u hu)
            have q0 := hcc 0 _ rfl
            have q1 := hcc 1 _ rfl
            have q2 := hcc 2 _ rfl
            rw [← Nat.add_assoc] at q0 q1 q2
            rw [Nat.add_zero] at q0
            have T2 : ∀ W, Sem.run Try.prog (Instr.indexAt 54 (.slice (some ⟨g, o, none⟩) nc c2) (.int .i64 (j : Int))) W = .ok (.pointer (some ⟨g, o + j * 3, none⟩)) W := fun W => by go_simp
            have hdr := drop_cons hyy
            have htk : (L.take (j + 1)).map Cn.s = (L.take j).map Cn.s ++ [y.s] := by rw [List.take_add_one, hyy]; simp
            obtain ⟨sj, hsj⟩ : ∃ sj, sc ++ (L.take j).map Cn.s = sj := ⟨_, rfl⟩
            have hsj2 : sc ++ (L.take (j + 1)).map Cn.s = sj ++ [y.s] := by rw [htk, ← hsj, List.append_assoc]
            have hsl : sj.length ≤ 1000000 := by rw [← hsj]; simp [List.length_take]; have := HNC.out; omega
            rw [hsj] at HNJ HRE
            rw [hdr] at HRE
            obtain ⟨r2, hr2⟩ : ∃ r2, (decide (y.s ∉ sj) && tysOk sh nv y.args) = r2 := ⟨_, rfl⟩
            have HMC : Hid (∀ w', Below wr.heap.size wr w' → NM w' b3 (n3 + j) sj → Calls Try.prog 56 #[.agg #[.map (some b1), .map (some b2), .map (some b3)], .agg #[.string (strB y.s), .int .i64 y.p, .slice d1 y.args.length e1], .int .i64 (nv : Int)] w' fun e w'' => e = .returned (.bool r2) ∧ NM w'' b3 (n3 + j + 1) (sj ++ [y.s]) ∧ Out (fun b => b = b3) w' w'') := fun w' hw' hnm => by
              have h9 := HBJ.out.trans (hw'.mono HBJ.out.size)
              exact k_mayCon b1 b2 b3 n1 (n3 + j) sh sj nv y _ _ w' (HSJ.out.below hw') hnm (by omega) (by have := HNC.out; omega) hsl (hyv2.under h9) (fun q hq => by have hq' : q < w.heap.size := hq; omega) hf1 hf2 hr2
            have HR2 := Lib.hid hr2
            have HS2 := Lib.hid hsj2
            obtain ⟨SY, hSY⟩ : ∃ SY, strB y.s = SY := ⟨_, rfl⟩
            obtain ⟨NA, hNA⟩ : ∃ NA, y.args.length = NA := ⟨_, rfl⟩
            rw [hNA] at HMC q2
            rw [hSY] at HMC q0
            have HBb : Hid (Below wr.heap.size wr (wr.alloc (.cells #[.string SY, .int .i64 y.p, .slice d1 NA e1] 59))) := (Below.refl _ wr).alloc (Nat.le_refl _) _
            have HBC := Lib.hid (Box.new wr 59 [.string SY, .int .i64 y.p, .slice d1 NA e1])
            have HNa := Lib.hid (HNJ.out.below HBb.out)
            obtain ⟨_, _, _, _⟩ := four_cells hy1
            obtain ⟨_, _, _, _, _, _⟩ := hy2.three
            have hb3r := HNJ.out.lt
            clear hcc hcy hyv hyv2 hyy hk1 hdr htk hsj hsj2 hsl hr2 hSY hNA hy1 hy2 hf1 hf2
            cases r2 with
            | false =>
              have hRR : R = some y.p := by rw [← HRE.out]; simp only [consCk]; rw [HR2.out]; rfl
              have he : E = 6 := by rw [← HE.out, hRR]; rfl
              have ha : A = y.p := by rw [← HAA.out, hRR]; rfl
              subst he
              subst ha
              clear hRR
              go_wp2_with (go_at_call 56; refine (HMC.out _ HBb.out HNa.out).mono ?_; rintro e wz ⟨rfl, hnm, ho⟩; have hy := ho.box HBC.out (show ¬ (_ = b3) by omega); obtain ⟨_, _, _, _, _, _⟩ := hy.three; have hyl := hy.lt; have HOZ := Lib.hid ho; clear hnm ho hy)
              go_quiet (fail)
              go_wp2_with fail
              refine bodyPost_ret (v := .tuple #[.int .i64 6, .int .i64 y.p]) (by simp only [results, Try.results24]; go_simp <;> rfl) rfl ⟨rfl, ?_⟩
              exact below_drN ((HBJ.out.trans (HBb.out.mono HBJ.out.size)).trans (HOZ.out.below (Nat.le_trans HBJ.out.size HBb.out.size) (fun q hq => by show ¬ (q = b3); omega))) _
            | true =>
              have HRE2 : Hid ((match consCk sh nv (sc ++ (L.take (j + 1)).map Cn.s) (L.drop (j + 1)) with
                  | some p => some p
                  | none => datasCk sh (sd ++ [d.s]) (sc ++ L.map Cn.s) (l.drop (k + 1))) = R) := by
                show _ = _
                rw [HS2.out, ← HRE.out]
                simp only [consCk]
                rw [if_pos HR2.out]
              clear HRE HR2
              go_wp2_with (go_at_call 56; refine (HMC.out _ HBb.out HNa.out).mono ?_; rintro e wz ⟨rfl, hnm, ho⟩; have HNZ := Lib.hid hnm; have HOZ : Hid (Out (fun b => b = b3) w9 wz) := (HOJ.out.trans (Out.of_below HBb.out)).trans ho; clear hnm ho)
              go_roundw
              case rel => exact ⟨j + 1, by omega, by go_num, HRE2, by rw [HS2.out]; exact HNZ, HOZ⟩
              case measure => simp [intOf]; omega
          · have hjm : j = nc := by omega
            have HRE3 : Hid (datasCk sh (sd ++ [d.s]) (sc ++ L.map Cn.s) (l.drop (k + 1)) = R) := by
              show _ = _
              rw [← HRE.out, List.drop_of_length_le (l := L) (i := j) (by rw [HNC.out]; omega)]
              rfl
            have HNJ2 : Hid (NM wr b3 (n3 + nc) (sc ++ L.map Cn.s)) := by
              have := HNJ.out
              rw [List.take_of_length_le (by rw [HNC.out]; omega), hjm] at this
              exact this
            have HND2 := Lib.hid (HND.out.agree (HOJ.out.block b2 HND.out.lt (show ¬ (b2 = b3) by omega)))
            have HOZ : Hid (Out (fun b => b = b2 ∨ b = b3) W0 wr) := HOO.out.trans (HOJ.out.mono (fun q _ hq => .inr hq))
            have HLN := Lib.hid (show (sc ++ L.map Cn.s).length = n3 + nc by simp [hsc, HNC.out])
            clear HRE hjm hy1 hy2 HNJ HOJ HND HOO
            go_wp2_with fail
            go_roundw
            case rel => exact ⟨k + 1, n3 + nc, sd ++ [d.s], sc ++ L.map Cn.s, by omega, by go_num, by simp; omega, HLN.out, by have := HNC.out; omega, HRE3, by rw [show 2 + (k + 1) = 2 + k + 1 by omega]; exact HND2, HNJ2, HOZ⟩
            case measure => simp [intOf]; omega
    · have hkm : k = m := by omega
      subst hkm
      have hRR : R = none := by
        rw [← HR.out, List.drop_of_length_le (by rw [HM.out]; exact Nat.le_refl _)]; rfl
      have he : E = 0 := by rw [← HE.out, hRR]; rfl
      have ha : A = 0 := by rw [← HAA.out, hRR]; rfl
      subst he
      subst ha
      go_wp2_with fail
      refine bodyPost_ret (v := .tuple #[.int .i64 0, .int .i64 0]) (by simp only [results, Try.results24]; go_simp <;> rfl) rfl ⟨rfl, HBW.out⟩

end Go.Proofs.Ytjfogodfpmfhhaa

namespace Go.Proofs.Ytjfogodfpmfhhaa
open Go.RowKit Go.Maps
set_option linter.unusedVariables false
set_option linter.unusedSimpArgs false

theorem aw_nil : checkL [] = none := by decide +kernel
theorem aw_one : checkL [⟨nInt, 5, [], []⟩] = some 5 := by decide +kernel
set_option maxRecDepth 100000 in
set_option maxHeartbeats 4000000 in
theorem d_awake (w : World) : Calls Try.prog 25 #[] w fun e w' => e = .returned (.bool true) ∧ Below w.heap.size w w' := by
  have H1 : Hid (∀ w', Calls Try.prog 24 #[.slice none 0 0] w' fun e w'' => e = .returned (.tuple #[.int .i64 0, .int .i64 0]) ∧ Below w'.heap.size w' w'') := fun w' => k_Check (S0 := fun _ => True) w' [] none 0 0 rfl (by omega) (fun d hd => by simp at hd) (by simp [conN]) (.e _ _ _) aw_nil
  have H2 : Hid (∀ w', Calls Try.prog 24 #[.slice (some ⟨w'.heap.size, 0, none⟩) 1 1] (w'.alloc (.cells #[.string ⟨#[73, 110, 116]⟩, .int .i64 5, .slice none 0 0, .slice none 0 0] 56)) fun e w'' => e = .returned (.tuple #[.int .i64 6, .int .i64 5]) ∧ Below w'.heap.size w' w'') := fun w' => by
    have h1 : InS (New w') w' (([⟨nInt, 5, [], []⟩] : List Dt).flatMap dtC) [.string ⟨#[73, 110, 116]⟩, .int .i64 5, .slice none 0 0, .slice none 0 0] := InS.cons (.v _) (InS.cons (.v _) (InS.cons (.e _ _ _) (InS.cons (.e _ _ _) InS.nil)))
    have h2 := InC.of_new (n := 1) (k := 4) (t := 56) h1 (Nat.le_refl _) rfl (by decide)
    refine (k_Check _ [⟨nInt, 5, [], []⟩] (some ⟨w'.heap.size, 0, none⟩) 1 1 rfl (by omega) (fun d hd => ?_) (by simp [conN]) h2 aw_one).mono ?_
    · simp at hd; subst hd; exact ⟨by decide, by decide, fun s hs => by simp at hs, fun c hc => by simp at hc⟩
    · rintro e w2 ⟨rfl, hb⟩
      exact ⟨rfl, ((Below.refl _ w').alloc (Nat.le_refl _) _).trans (hb.mono (by simp))⟩
  go_enter Try.func25, Try.ntmps25
  go_wp2_with (first
    | (go_at_call 24; (with_reducible refine (H1.out _).mono ?_); rintro e w1 ⟨rfl, hb⟩; have HB1 := Lib.hid hb; clear hb)
    | (go_at_call 24; (with_reducible refine (H2.out _).mono ?_); rintro e w2 ⟨rfl, hb⟩; have HB2 := Lib.hid hb; clear hb)
    | (go_at_call 17; refine (num_any _ _).mono ?_; rintro e w' ⟨rfl, hw⟩; have hw := hw.symm; subst hw))
  go_ret
  exact ⟨rfl, HB1.out.trans (HB2.out.mono HB1.out.size)⟩

end Go.Proofs.Ytjfogodfpmfhhaa

namespace Go.Proofs.Ytjfogodfpmfhhaa
open Go.RowKit Go.Maps
set_option linter.unusedVariables false
set_option linter.unusedSimpArgs false

end Go.Proofs.Ytjfogodfpmfhhaa
