/- The document's Play, whatever scripts; mathematics of the events that one worker has in a list of events. -/
import Derived.Test.YtpfcpeljfgmjgaaDoorQplayz
import Derived.Test.YtpfcpeljfgmjgaaDoorQnilz
import Derived.Test.YtpfcpeljfgmjgaaDoorZpt
import Derived.Test.YtpfcpeljfgmjgaaDoorZpu
namespace Go.Proofs.YtpfcpeljfgmjgaaDoor
open Go.RowKit
set_option linter.unusedVariables false
set_option linter.unusedSimpArgs false

theorem rplay_any (a b c : Option Addr) (la ca lb cb lc cc : Nat) (pr xs : List Int) (ss : List (List O3)) (w : World) {lp hp ls lx hx : Nat} (hpr : Row lp hp w a la pr) (hp1 : hp ≤ w.heap.size) (hs : Scr ls w b lb ss) (hs1 : ls ≤ w.heap.size) (hxs : Row lx hx w c lc xs) (hx1 : hx ≤ w.heap.size)
    (hm1 : la ≤ 4096) (hm2 : lb ≤ 64) (hm3 : opsN ss ≤ 4096) (hm4 : lc ≤ 100000) :
    Calls Tryd.prog 13 #[.slice a la ca, .slice b lb cb, .slice c lc cc] w fun e w' => ∃ (T cu : Nat) (ev : Value) (au : Option Addr), e = .returned (.agg #[ev, .slice au la cu, .int .i64 (T : Int)]) ∧ Over pr xs la ss T ∧
      w'.ownsRow w.heap.size 42 8 ev (stAt pr xs la ss T).l.length (cellsE (stAt pr xs la ss T).l) ∧ RowN 0 w'.heap.size w' au la (stAt pr xs la ss T).up ∧ Below w.heap.size w w' := by
  by_cases h0 : 0 < lb
  · exact rplay_some a b c la ca lb cb lc cc pr xs ss w hpr hp1 hs hs1 hxs hx1 hm1 hm2 hm3 hm4 h0
  · obtain rfl : lb = 0 := by omega
    have e : ss = [] := List.eq_nil_of_length_eq_zero hs.1
    subst e
    refine (rplay_nil a b c la ca cb lc cc xs w hxs hx1 hm1 hm4).mono ?_
    rintro e w' ⟨cu, au, rfl, h1, h2⟩
    exact ⟨0, cu, _, au, rfl, ⟨fun t h => absurd h (Nat.not_lt_zero _), rfl⟩, World.ownsRow_nil _ _ _ _, h1, h2⟩

theorem evs_app (w : Nat) (a b : List Ev) : evs w (a ++ b) = evs w a ++ evs w b := by
  unfold evs; rw [List.filter_append, List.map_append]
theorem split_at {α : Type} {l : List α} {j : Nat} {e : α} (h : l[j]? = some e) : l = l.take j ++ e :: l.drop (j + 1) := by
  obtain ⟨h1, rfl⟩ := List.getElem?_eq_some_iff.1 h
  rw [← List.drop_eq_getElem_cons h1, List.take_append_drop]
theorem take_at {α : Type} {l : List α} {j : Nat} {e : α} (h : l[j]? = some e) : l.take (j + 1) = l.take j ++ [e] := by
  rw [List.take_add_one, h]; rfl
/-- The last end so far of a worker's events. -/
def endA (w : Nat) (l : List Ev) : Int := (((l.filter fun e => decide (e.wk = (w : Int))).getLast?).map Ev.en).getD 0
theorem endA_snoc (w : Nat) (l : List Ev) (e : Ev) : endA w (l ++ [e]) = if e.wk = (w : Int) then e.en else endA w l := by
  unfold endA
  rw [List.filter_append]
  by_cases h : e.wk = (w : Int) <;> simp [h]
theorem endA_mem (w : Nat) (l : List Ev) : endA w l = 0 ∨ ∃ d ∈ l, d.wk = (w : Int) ∧ endA w l = d.en := by
  unfold endA
  cases h : (l.filter fun e => decide (e.wk = (w : Int))).getLast? with
  | none => exact .inl rfl
  | some d =>
    have hd := List.mem_of_getLast? h
    obtain ⟨h1, h2⟩ := List.mem_filter.1 hd
    exact .inr ⟨d, h1, by simpa using h2, rfl⟩
theorem valid_tr {n : Nat} {s : List O3} (h : ∀ q ∈ s, okB q.1 q.2.1 q.2.2 n) : (valid n s).map Opn.tr = s := by
  unfold valid
  rw [List.filter_eq_self.2 fun q hq => decide_eq_true (h q hq), List.map_map]
  conv => rhs; rw [← List.map_id s]
  refine List.map_congr_left fun q hq => ?_
  obtain ⟨_, h1, h2, h3⟩ := okB_opn (h q hq)
  show (((toOpn q).k : Int), ((toOpn q).x : Int), (toOpn q).y) = q
  rw [h1, h2, h3]
theorem evs_over {pr xs : List Int} {n : Nat} {ss : List (List O3)} {T : Nat} (h : Over pr xs n ss T) (hM : Made n ss) {w : Nat} {s : List O3} (hs : ss[w]? = some s) : evs w (stAt pr xs n ss T).l = s := by
  have h1 := over_evs (n := n) (pr := pr) (picks := xs) (ss := ss.map (valid n)) (T := T) h.2 w (valid n s) (by rw [List.getElem?_map, hs]; rfl)
  exact h1.trans (valid_tr fun q hq => ((hM s (List.mem_of_getElem? hs)).2 q hq).1)

/-- What there is to say of one event of worker w. -/
structure EvIs (T : Nat) (w : Nat) (L : List Ev) (s : List O3) (j : Nat) (e : Ev) : Prop where
  i : s[(evs w (L.take j)).length]? = some (e.k, e.x, e.y)
  b : endA w (L.take j) < e.bg
  e : e.en ≤ (T : Int)
theorem ev_is {pr xs : List Int} {n : Nat} {ss : List (List O3)} {T : Nat} (h : Over pr xs n ss T) (hM : Made n ss) {w : Nat} {s : List O3} (hs : ss[w]? = some s) {j : Nat} {e : Ev} (he : (stAt pr xs n ss T).l[j]? = some e) (hw : e.wk = (w : Int)) : EvIs T w (stAt pr xs n ss T).l s j e := by
  obtain ⟨htm, L⟩ := run_lin (pr := pr) (picks := xs) (all_ok n ss) T h.1
  have E := L.evs e (List.mem_of_getElem? he)
  obtain ⟨bg, pl, en, e1, e2, e3, e4, e5, e6, e7⟩ := E.t
  rw [htm] at e7
  have h1 := evs_over h hM hs
  have h2 := split_at he
  refine ⟨?_, ?_, by omega⟩
  · rw [← h1]
    conv => lhs; rw [h2]
    rw [evs_app]
    have h3 : evs w (e :: (stAt pr xs n ss T).l.drop (j + 1)) = e.tr :: evs w ((stAt pr xs n ss T).l.drop (j + 1)) := by
      unfold evs; rw [List.filter_cons_of_pos (by simpa using hw)]; rfl
    rw [h3]
    have h4 : ((stAt pr xs n ss T).l.take j ++ e :: (stAt pr xs n ss T).l.drop (j + 1)).take j = (stAt pr xs n ss T).l.take j := by rw [← h2]
    rw [h4, List.getElem?_append_right (Nat.le_refl _), Nat.sub_self]
    rfl
  · rcases endA_mem w ((stAt pr xs n ss T).l.take j) with h3 | ⟨d, h3, h4, h5⟩
    · rw [h3]; omega
    · rw [h5]
      have hp := L.pw
      have hp' : ((stAt pr xs n ss T).l.take j ++ e :: (stAt pr xs n ss T).l.drop (j + 1)).Pairwise fun e f => e.en < f.en ∧ e.pl ≠ f.pl ∧ (e.wk = f.wk → e.en < f.bg) := by rw [← h2]; exact hp
      exact ((List.pairwise_append.1 hp').2.2 d h3 e (by simp)).2.2 (h4.trans hw.symm)
theorem endA_fits {pr xs : List Int} {n : Nat} {ss : List (List O3)} {T : Nat} (h : Over pr xs n ss T) (w j : Nat) : 0 ≤ endA w ((stAt pr xs n ss T).l.take j) ∧ endA w ((stAt pr xs n ss T).l.take j) ≤ (T : Int) := by
  obtain ⟨htm, L⟩ := run_lin (pr := pr) (picks := xs) (all_ok n ss) T h.1
  rcases endA_mem w ((stAt pr xs n ss T).l.take j) with h3 | ⟨d, h3, h4, h5⟩
  · omega
  · obtain ⟨bg, pl, en, e1, e2, e3, e4, e5, e6, e7⟩ := (L.evs d (List.mem_of_mem_take h3)).t
    rw [htm] at e7
    omega

end Go.Proofs.YtpfcpeljfgmjgaaDoor
