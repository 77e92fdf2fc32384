/- How operations, scripts, workers, events lie in memory. Contracts of package crew's Count. Contracts of package play's flags, may. -/
import Derived.Test.YtpfcpeljfgmjgaaDoorZpa
import Derived.Test.YtpfcpeljfgmjgaaDoorZpi
import Derived.Test.YtpfcpeljfgmjgaaDoorZpl
import Derived.Test.YtpfcpeljfgmjgaaDoorZpm
import Derived.Test.YtpfcpeljfgmjgaaDoorProg
import Derived.IntWalk
namespace Go.Proofs.YtpfcpeljfgmjgaaDoor
open Go.RowKit
set_option linter.unusedVariables false
set_option linter.unusedSimpArgs false

/-- An operation as three numbers. -/
abbrev O3 := Int × Int × Int
def o3 : O3 → List Value := fun q => [.int .i64 q.1, .int .i64 q.2.1, .int .i64 q.2.2]

abbrev OpsRow (lo hi : Nat) (w : World) (a : Option Addr) (n : Nat) (os : List O3) : Prop := Sl 3 lo hi w a n (os.map o3)
/-- Scripts: a slice of slices of operations. -/
def Scr (hi : Nat) (w : World) (a : Option Addr) (n : Nat) (ss : List (List O3)) : Prop :=
  ss.length = n ∧ (n = 0 ∨ ∃ b off, a = some ⟨b, off, none⟩ ∧ b < hi ∧ ∀ i s, ss[i]? = some s → ∃ a' c', w.cell? ⟨b, off + i, none⟩ = some (.slice a' s.length c') ∧ OpsRow 0 hi w a' s.length s)
theorem Scr.below {hi n B : Nat} {w w' : World} {a : Option Addr} {ss : List (List O3)} (h : Scr hi w a n ss) (hb : Below B w w') (hh : hi ≤ B) : Scr hi w' a n ss := by
  obtain ⟨h1, h2 | ⟨b, off, rfl, hb', hc⟩⟩ := h
  · exact ⟨h1, .inl h2⟩
  · refine ⟨h1, .inr ⟨b, off, rfl, hb', fun i s hs => ?_⟩⟩
    obtain ⟨a', c', h3, h4⟩ := hc i s hs
    exact ⟨a', c', (hb.cell (p := ⟨b, off + i, none⟩) (show b < B by omega)).trans h3, h4.below hb hh⟩

/-- Those operations that may begin. -/
def toOpn (q : O3) : Opn := ⟨q.1.toNat, q.2.1.toNat, q.2.2⟩
def valid (n : Nat) (os : List O3) : List Opn := (os.filter fun q => decide (okB q.1 q.2.1 q.2.2 n)).map toOpn
theorem okB_opn {n : Nat} {q : O3} (h : okB q.1 q.2.1 q.2.2 n) : (toOpn q).ok n ∧ ((toOpn q).k : Int) = q.1 ∧ ((toOpn q).x : Int) = q.2.1 ∧ (toOpn q).y = q.2.2 := by
  obtain ⟨h1, h2, h3, h4⟩ := h
  refine ⟨⟨?_, ?_, ?_, fun hk => ?_⟩, ?_, ?_, rfl⟩
  · show 1 ≤ q.1.toNat; omega
  · show q.1.toNat ≤ 3; omega
  · show q.2.1.toNat < n; omega
  · change q.1.toNat ≠ 1 at hk
    exact h4 (by omega)
  · show ((q.1.toNat : Nat) : Int) = q.1; omega
  · show ((q.2.1.toNat : Nat) : Int) = q.2.1; omega
theorem valid_ok {n : Nat} {os : List O3} : ∀ o ∈ valid n os, o.ok n := by
  intro o ho
  unfold valid at ho
  simp only [List.mem_map, List.mem_filter, decide_eq_true_eq] at ho
  obtain ⟨q, ⟨_, h⟩, rfl⟩ := ho
  exact (okB_opn h).1
theorem valid_snoc (n : Nat) (os : List O3) (q : O3) : valid n (os ++ [q]) = valid n os ++ if okB q.1 q.2.1 q.2.2 n then [toOpn q] else [] := by
  unfold valid
  rw [List.filter_append, List.map_append]
  by_cases h : okB q.1 q.2.1 q.2.2 n <;> simp [List.filter_cons, h]
theorem valid_length_le (n : Nat) (os : List O3) : (valid n os).length ≤ os.length := by
  unfold valid; rw [List.length_map]; exact List.length_filter_le _ _

/-- A task that has not begun. -/
def ocells (o : Opn) : List Value := [.int .i64 (o.k : Int), .int .i64 (o.x : Int), .int .i64 o.y, .int .i64 1, .int .i64 (o.x : Int), .int .i64 o.y, .int .i64 0, .int .i64 0, .bool false, .int .i64 0]
theorem ocells_tk {n : Nat} {o : Opn} (h : o.ok n) : ocells o = tcells o.tk o.y := by
  have hv : tV o.tk o.y = o.y := by
    unfold tV
    by_cases hk : o.k = 1
    · rw [if_pos (show o.tk.k = 1 from hk)]
    · rw [if_neg (show ¬ o.tk.k = 1 from hk)]
      have := h.2.2.2 hk
      show ((if o.k = 1 then 0 else o.y.toNat : Nat) : Int) = o.y
      rw [if_neg hk]; omega
  unfold tcells
  rw [hv]
  rfl
def cellsK (os : List Opn) : List Value := os.flatMap ocells
theorem ocells_length (o : Opn) : (ocells o).length = 10 := rfl
theorem ocells_one (o : Opn) : ∀ v ∈ ocells o, v.oneCell' = true := by
  intro v hv
  simp [ocells] at hv
  rcases hv with rfl | rfl | rfl | rfl | rfl | rfl | rfl | rfl | rfl | rfl <;> rfl
theorem cellsK_length : ∀ os : List Opn, (cellsK os).length = os.length * 10
  | [] => rfl
  | q :: r => by have := cellsK_length r; unfold cellsK at *; rw [List.flatMap_cons, List.length_append, this, ocells_length, List.length_cons]; omega
theorem cellsK_snoc (os : List Opn) (q : Opn) : cellsK (os ++ [q]) = cellsK os ++ ocells q := by
  unfold cellsK; simp [List.flatMap_append]

/-! ### Workers: rows of 13 cells -/
def wcell (k : Wk) (rv : Value) : List Value := rv :: (tcells k.t k.y ++ [.int .i64 (k.bg : Int), .int .i64 (k.mt : Int)])
/-- Events in memory. -/
def ecells (e : Ev) : List Value := [.int .i64 e.wk, .int .i64 e.k, .int .i64 e.x, .int .i64 e.y, .int .i64 e.res, .int .i64 e.bg, .int .i64 e.pl, .int .i64 e.en]
def cellsE (l : List Ev) : List Value := l.flatMap ecells
theorem ecells_length (e : Ev) : (ecells e).length = 8 := rfl
theorem ecells_one (e : Ev) : ∀ v ∈ ecells e, v.oneCell' = true := by
  intro v hv
  simp [ecells] at hv
  rcases hv with rfl | rfl | rfl | rfl | rfl | rfl | rfl | rfl <;> rfl
theorem cellsE_snoc (l : List Ev) (e : Ev) : cellsE (l ++ [e]) = cellsE l ++ ecells e := by unfold cellsE; simp [List.flatMap_append]
theorem cellsE_length (l : List Ev) : (cellsE l).length = l.length * 8 := flat_length ecells_length l

end Go.Proofs.YtpfcpeljfgmjgaaDoor

namespace Go.Proofs.YtpfcpeljfgmjgaaDoor
open Go.RowKit
set_option linter.unusedVariables false
set_option linter.unusedSimpArgs false

/-- A slice of slices of these lengths. -/
def Heads (w : World) (a : Option Addr) (n : Nat) (ls : List Nat) : Prop :=
  ls.length = n ∧ (n = 0 ∨ ∃ b off, a = some ⟨b, off, none⟩ ∧ ∀ i m, ls[i]? = some m → ∃ a' c', w.cell? ⟨b, off + i, none⟩ = some (.slice a' m c'))
theorem sum_take_succ (l : List Nat) (k m : Nat) (h : l[k]? = some m) : (l.take (k + 1)).sum = (l.take k).sum + m := by
  rw [List.take_add_one, h]; simp
theorem sum_take_le (l : List Nat) (k : Nat) : (l.take k).sum ≤ l.sum := by
  conv => rhs; rw [← List.take_append_drop k l]
  rw [List.sum_append]; omega

theorem count_op (a : Option Addr) (la ca : Nat) (ls : List Nat) (w : World) (hs : Heads w a la ls) (hm : la ≤ 1000000) (ho : ls.sum ≤ 1000000) (v : Nat) (hv : ls.sum = v) :
    Calls Tryd.prog 66 #[.slice a la ca] w fun e w' => e = .returned (.int .i64 (v : Int)) ∧ w = w' := by
  obtain ⟨hl, hs⟩ := hs
  have HS := Lib.hid hs
  have HL := Lib.hid hl
  have HO := Lib.hid ho
  have HV := Lib.hid hv
  clear hs hl ho hv
  go_enter Tryd.func66, Tryd.ntmps66
  go_wp2_with fail
  go_loop [3, 8] (fun c i => ∃ k : Nat, k ≤ la ∧ i = .int .i64 k ∧ c = .int .i64 ((ls.take k).sum : Nat)) (fun _ i => la - (intOf i).toNat)
  case atStart => exact ⟨0, Nat.zero_le _, rfl, by simp⟩
  case round =>
    obtain ⟨k, hk, rfl, rfl⟩ := hrel
    by_cases hlt : k < la
    · obtain ⟨b, off, rfl, hc⟩ := HS.out.resolve_left (by omega)
      obtain ⟨m, hsk⟩ : ∃ m, ls[k]? = some m := ⟨_, List.getElem?_eq_getElem (by have := HL.out; omega)⟩
      obtain ⟨a', c', h3⟩ := hc k m hsk
      have e1 := sum_take_succ ls k m hsk
      have e2 := sum_take_le ls (k + 1)
      have e3 := HO.out
      obtain ⟨q, hq⟩ : ∃ q, (ls.take (k + 1)).sum = q := ⟨_, rfl⟩
      obtain ⟨p, hp⟩ : ∃ p, (ls.take k).sum = p := ⟨_, rfl⟩
      have HQ := Lib.hid hq
      rw [hq, hp] at e1
      rw [hq] at e2
      rw [hp]
      clear hc hsk hq hp
      have w1 : IntKind.i64.wrap ((p : Int) + (m : Int)) = (q : Int) := by rw [e1]; exact (IntWalk.i64_in _ (by omega)).trans (by omega)
      go_wp2_with fail
      go_round
      case rel => exact ⟨k + 1, by omega, by go_num, by rw [HQ.out]; congr 1; omega⟩
      case measure => simp [intOf]; omega
    · obtain rfl : k = la := by omega
      have e : ls.take k = ls := List.take_of_length_le (by rw [HL.out]; exact Nat.le_refl _)
      rw [e, HV.out]
      clear e
      go_wp2_with fail
      go_ret
      exact ⟨rfl, rfl⟩

end Go.Proofs.YtpfcpeljfgmjgaaDoor

namespace Go.Proofs.YtpfcpeljfgmjgaaDoor
open Go.RowKit
set_option linter.unusedVariables false
set_option linter.unusedSimpArgs false

theorem Tryd.boolInfo : (Tryd.prog.info? 4).map (fun i => (i.zero, i.size, i.bytes)) = some (some (.bool false), 1, 1) := by kernel_rfl

theorem flags_upd (l : List Bool) (k : Nat) (h : k < l.length) : ((l.take k ++ List.replicate (l.length - k) false).map Value.bool).set k (.bool (l.getD k false)) = (l.take (k + 1) ++ List.replicate (l.length - (k + 1)) false).map Value.bool := by
  rw [← List.map_set]
  congr 1
  have hg : l.take (k + 1) = l.take k ++ [l.getD k false] := by
    rw [List.take_add_one, List.getElem?_eq_getElem h]; simp [List.getD, h]
  have e : l.length - k = (l.length - (k + 1)) + 1 := by omega
  rw [hg, List.set_append_right _ _ (by simp; omega)]
  have e2 : k - (l.take k).length = 0 := by simp; omega
  rw [e2, e, List.replicate_succ, List.set_cons_zero, List.append_assoc]
  rfl

/-- How many operations there are in all. -/
def opsN (ss : List (List O3)) : Nat := (ss.map List.length).sum
theorem opsN_take (ss : List (List O3)) (k : Nat) (s : List O3) (h : ss[k]? = some s) : opsN (ss.take (k + 1)) = opsN (ss.take k) + s.length := by
  unfold opsN; rw [List.take_add_one, h]; simp
theorem opsN_le (ss : List (List O3)) (k : Nat) : opsN (ss.take k) ≤ opsN ss := by
  unfold opsN
  conv => rhs; rw [← List.take_append_drop k ss]
  rw [List.map_append, List.sum_append]; omega

theorem Scr.heads {hi n : Nat} {w : World} {a : Option Addr} {ss : List (List O3)} (h : Scr hi w a n ss) : Heads w a n (ss.map List.length) := by
  obtain ⟨h1, h2 | ⟨b, off, rfl, _, hc⟩⟩ := h
  · exact ⟨by simpa using h1, .inl h2⟩
  · refine ⟨by simpa using h1, .inr ⟨b, off, rfl, fun i m hm => ?_⟩⟩
    rw [List.getElem?_map] at hm
    cases hs : ss[i]? with
    | none => rw [hs] at hm; cases hm
    | some s =>
      rw [hs] at hm
      cases hm
      obtain ⟨a', c', h3, _⟩ := hc i s hs
      exact ⟨a', c', h3⟩

theorem may_play (n : Int) (a : Option Addr) (la ca : Nat) (ss : List (List O3)) (w : World) {hi : Nat} (hs : Scr hi w a la ss) (hm : la ≤ 1000000) (ho : opsN ss ≤ 1000000) :
    Calls Tryd.prog 36 #[.int .i64 n, .slice a la ca] w fun e w' => e = .returned (.bool (decide (n ≤ 4096 ∧ la ≤ 64 ∧ opsN ss ≤ 4096))) ∧ w = w' := by
  obtain ⟨r, hr⟩ : ∃ r, decide (n ≤ 4096 ∧ la ≤ 64 ∧ opsN ss ≤ 4096) = r := ⟨_, rfl⟩
  rw [hr]
  obtain ⟨q, hq⟩ : ∃ q, opsN ss = q := ⟨_, rfl⟩
  rw [hq] at hr
  have HC := Lib.hid (fun w' (h : Scr hi w' a la ss) => count_op a la ca (ss.map List.length) w' h.heads hm ho q hq)
  have HS := Lib.hid hs
  clear hs ho hq
  by_cases h1 : n ≤ 4096
  · by_cases h2 : (la : Int) ≤ 64
    · have d1 : decide (n ≤ 4096) = true := decide_eq_true h1
      have d2 : decide ((la : Int) ≤ 64) = true := decide_eq_true h2
      have d3 : decide ((q : Int) ≤ 4096) = r := by rw [← hr, decide_eq_decide]; omega
      clear hr
      go_enter Tryd.func36, Tryd.ntmps36
      go_wp2_with (first | (go_at_call 66; (with_reducible refine (HC.out _ HS.out).mono ?_); rintro e w' ⟨rfl, rfl⟩))
      go_ret
      exact ⟨by simp only [d3]; rfl, rfl⟩
    · obtain rfl : r = false := by rw [← hr]; exact decide_eq_false (fun q => by omega)
      have d2 : decide ((la : Int) ≤ 64) = false := decide_eq_false h2
      clear hr
      go_enter Tryd.func36, Tryd.ntmps36
      go_wp2_with fail
      go_ret
      exact ⟨rfl, rfl⟩
  · obtain rfl : r = false := by rw [← hr]; exact decide_eq_false (fun q => by omega)
    have d1 : decide (n ≤ 4096) = false := decide_eq_false h1
    clear hr
    go_enter Tryd.func36, Tryd.ntmps36
    go_wp2_with fail
    go_ret
    exact ⟨rfl, rfl⟩

end Go.Proofs.YtpfcpeljfgmjgaaDoor
