/- Contract of package table's asksOf. -/
import Derived.Test.YthhcchdjeeigpaaDoorTidx
import Derived.Test.YthhcchdjeeigpaaDoorHstr
namespace Go.Proofs.YthhcchdjeeigpaaDoor
open Go.RowKit Go.Maps
set_option linter.unusedVariables false
set_option linter.unusedSimpArgs false

/-- A key's stripe. -/
def sg (n : Int) (k : Ky) : Int := strI k.s.data.toList k.a k.b n
def acell (n : Int) (k : Ky) : List Value := [.string k.s, .int .i64 k.a, .int .i64 k.b, .int .i64 (sg n k)]
def z4 : List Value := [.string ByteArray.empty, .int .i64 0, .int .i64 0, .int .i64 0]
def rowsTo (n : Int) (ks : List Ky) (i : Nat) : List (List Value) := (ks.take i).map (acell n) ++ List.replicate (ks.length - i) z4
theorem rowsTo_len (n : Int) (ks : List Ky) (i : Nat) : ∀ y ∈ rowsTo n ks i, y.length = 4 := by
  intro y hy
  rcases List.mem_append.1 hy with h | h
  · obtain ⟨k, _, rfl⟩ := List.mem_map.1 h; rfl
  · rw [(List.mem_replicate.1 h).2]; rfl
theorem rowsTo_get (n : Int) (ks : List Ky) (i : Nat) (h : i < ks.length) : (rowsTo n ks i)[i]? = some z4 := by
  unfold rowsTo
  rw [List.getElem?_append_right (by simp; omega), List.getElem?_replicate, if_pos (by simp; omega)]
theorem rowsTo_set (n : Int) (ks : List Ky) (i : Nat) (k : Ky) (h : ks[i]? = some k) : (rowsTo n ks i).set i (acell n k) = rowsTo n ks (i + 1) := by
  have hi := (List.getElem?_eq_some_iff.1 h).1
  unfold rowsTo
  have e : ks.length - i = (ks.length - (i + 1)) + 1 := by omega
  have ht : ks.take (i + 1) = ks.take i ++ [k] := by rw [List.take_add_one, h]; rfl
  rw [ht, List.set_append_right _ _ (by simp; omega), e, List.replicate_succ]
  have e2 : i - ((ks.take i).map (acell n)).length = 0 := by simp; omega
  rw [e2, List.set_cons_zero, List.map_append, List.append_assoc]
  rfl
theorem rowsTo_all (n : Int) (ks : List Ky) : rowsTo n ks ks.length = ks.map (acell n) := by simp [rowsTo]
theorem rowsTo_zero (n : Int) (ks : List Ky) : rowsTo n ks 0 = List.replicate ks.length z4 := by simp [rowsTo]
theorem Tryd.askInfo : (Tryd.prog.info? 145).map (fun i => (i.zero, i.size, i.bytes)) = some (some (.agg #[.string ByteArray.empty, .int .i64 0, .int .i64 0, .int .i64 0]), 4, 40) := by kernel_rfl

theorem At.key {w : World} {b off i : Nat} {ks : List Ky} {k : Ky} (h : At 3 w b off (ks.map kcell)) (hk : ks[i]? = some k) : w.cell? ⟨b, off + i * 3, none⟩ = some (.string k.s) ∧ w.cell? ⟨b, off + i * 3 + 1, none⟩ = some (.int .i64 k.a) ∧ w.cell? ⟨b, off + i * 3 + 2, none⟩ = some (.int .i64 k.b) := by
  have hx : (ks.map kcell)[i]? = some (kcell k) := by rw [List.getElem?_map, hk]; rfl
  exact ⟨h i _ hx 0 _ rfl, h i _ hx 1 _ rfl, h i _ hx 2 _ rfl⟩

theorem RowsIn.put4 {w : World} {b i j : Nat} {xs : List (List Value)} {x : List Value} {v0 v1 v2 v3 : Value} (h : RowsIn 4 w b xs) (hx : xs[i]? = some x) (hk : ∀ y ∈ xs, y.length = 4) (hj : j = i * 4) :
    RowsIn 4 ((((w.setCell ⟨b, j, none⟩ v0).setCell ⟨b, j + 1, none⟩ v1).setCell ⟨b, j + 2, none⟩ v2).setCell ⟨b, j + 3, none⟩ v3) b (xs.set i [v0, v1, v2, v3]) := by
  subst hj
  exact (h.put_row (vs := [v0, v1, v2, v3]) hx hk rfl).1

set_option maxRecDepth 100000 in
set_option maxHeartbeats 2000000 in
theorem asks_any (a : Option Addr) (la ca : Nat) (ks : List Ky) (n : Int) (w : World) {lo hi : Nat} (hx : Sl 3 lo hi w a la (ks.map kcell)) (hhi : hi ≤ w.heap.size) (hm : la ≤ 100000) (hf : ∀ k ∈ ks, kfit k) :
    Calls Tryd.prog 68 #[.slice a la ca, .int .i64 n] w fun e w' => ∃ g, e = .returned (.slice (some ⟨g, 0, none⟩) la la) ∧ w.heap.size ≤ g ∧ RowsIn 4 w' g (ks.map (acell n)) ∧ Below w.heap.size w w' := by
  obtain ⟨i0, hi0, hz0, hz1, hz2⟩ := info_parts Tryd.askInfo
  obtain ⟨mk, hmk⟩ : ∃ m, m = madeCells z4.toArray (la * 4) := ⟨_, rfl⟩
  have hmake : ∀ W, Sem.run Tryd.prog (Instr.makeSlice 139 (.int .i64 (la : Int)) (.int .i64 (la : Int))) W = .ok (.slice (some ⟨W.heap.size, 0, none⟩) la la) (W.alloc (.cells mk 145)) := fun W => by
    have := run_makeSlice (P := Tryd.prog) (w := W) 139 145 i0 _ Tryd.underlying139 hi0 hz0 .i64 .i64 (la : Int) (la : Int) (by omega) (Int.le_refl _) (by rw [hz1]; omega) (by rw [hz2]; omega) (by omega)
    rw [hz1] at this
    rw [hmk]
    simpa [Value.cells, z4] using this
  have hlen : ks.length = la := by simpa using hx.1
  have hrows : RowsIn 4 (w.alloc (.cells mk 145)) w.heap.size (rowsTo n ks 0) := by
    rw [hmk, rowsTo_zero, hlen]; exact RowsIn.made w z4 la _ rfl
  have HX := Lib.hid hx
  have HL := Lib.hid hlen
  have HF := Lib.hid hf
  have HR0 := Lib.hid hrows
  clear hx hlen hf hrows hmk
  go_enter Tryd.func68, Tryd.ntmps68
  go_wp2_with fail
  go_loopw [13] (fun iv wr => ∃ k : Nat, k ≤ la ∧ iv = .int .i64 (k : Int) ∧ Hid (RowsIn 4 wr w.heap.size (rowsTo n ks k)) ∧ Below w.heap.size w wr) (fun iv _ => la - (intOf iv).toNat)
  case atStart => exact ⟨0, Nat.zero_le _, rfl, HR0.out, (Below.refl _ _).alloc (Nat.le_refl _) _⟩
  case round =>
    clear HR0
    obtain ⟨k, hk, rfl, HR, hb⟩ := hrel
    have sr := hb.size
    have hwl := HR.out.1
    by_cases hlt : k < la
    · obtain ⟨b, off, rfl, _, hbb, hc⟩ := HX.out.at (by omega)
      obtain ⟨q, hq⟩ : ∃ q, ks[k]? = some q := ⟨_, List.getElem?_eq_getElem (by have := HL.out; omega)⟩
      obtain ⟨c0, c1, c2⟩ := hc.key hq
      have d0 := (hb.cell (p := ⟨b, off + k * 3, none⟩) (show b < w.heap.size by omega)).trans c0
      have d1 := (hb.cell (p := ⟨b, off + k * 3 + 1, none⟩) (show b < w.heap.size by omega)).trans c1
      have d2 := (hb.cell (p := ⟨b, off + k * 3 + 2, none⟩) (show b < w.heap.size by omega)).trans c2
      have hbw : b < wr.heap.size := by omega
      have hfit := (HF.out q (List.mem_of_getElem? hq)).2.2
      have HSET := Lib.hid (rowsTo_set n ks k q hq)
      have HGET := Lib.hid (rowsTo_get n ks k (by have := HL.out; omega))
      have hac : acell n q = [.string q.s, .int .i64 q.a, .int .i64 q.b, .int .i64 (strI q.s.data.toList q.a q.b n)] := rfl
      rw [hac] at HSET
      obtain ⟨s, ka, kb⟩ := q
      dsimp only at d0 d1 d2 hfit HSET
      obtain ⟨z, hz⟩ : ∃ z, strI s.data.toList ka kb n = z := ⟨_, rfl⟩
      rw [hz] at HSET
      have HST : Hid (∀ w', Calls Tryd.prog 85 #[.agg #[.string s, .int .i64 ka, .int .i64 kb], .int .i64 n] w' fun e w'' => e = .returned (.int .i64 z) ∧ Below w'.heap.size w' w'') := fun w' => by rw [← hz]; exact stripe_key s ka kb n w' hfit
      have HB := Lib.hid hb
      have hk0 : (0 : Int) ≤ (k : Int) := by omega
      have hk1 : (k : Int) < (la : Int) := by omega
      clear hc hq c0 c1 c2 hb hac hz hfit
      obtain ⟨j, hj⟩ : ∃ j, j = k * 4 := ⟨_, rfl⟩
      have T2 : ∀ W0, Sem.run Tryd.prog (Instr.indexAt 139 (.slice (some ⟨w.heap.size, 0, none⟩) la la) (.int .i64 (k : Int))) W0 = .ok (.pointer (some ⟨w.heap.size, j, none⟩)) W0 := fun W0 => by rw [hj]; go_simp
      have HJ := Lib.hid hj
      clear hj
      have hbx := Box.new wr 57 [.string s, .int .i64 ka, .int .i64 kb]
      have HRA : Hid (RowsIn 4 (wr.alloc (.cells #[.string s, .int .i64 ka, .int .i64 kb] 57)) w.heap.size (rowsTo n ks k)) := HR.out.agree (Below.heap_alloc wr _ _ hwl) (by simp)
      have HBA : Hid (Below w.heap.size w (wr.alloc (.cells #[.string s, .int .i64 ka, .int .i64 kb] 57))) := HB.out.alloc sr _
      have hwr : wr.heap.size < (wr.alloc (.cells #[.string s, .int .i64 ka, .int .i64 kb] 57)).heap.size := by simp
      have hwn : w.heap.size ≠ wr.heap.size := by omega
      have hwn' : wr.heap.size ≠ w.heap.size := by omega
      simp only [List.toArray] at hbx
      obtain ⟨_, _, _, _, _, _⟩ := hbx.three
      have HBX := Lib.hid hbx
      clear hbx
      go_upto_region 5 with fail
      go_region_with (first | (go_at_call 85; (with_reducible refine (HST.out _).mono ?_); rintro e wz ⟨rfl, hbz⟩; have hbq := HBX.out.drew.below hbz; obtain ⟨_, _, _, _, _, _⟩ := hbq.three; have hzs := hbz.size; have hrz := HRA.out.agree (w' := wz) (hbz.block w.heap.size (by simp; omega)) (by show _ ≤ _; simpa using hbz.size); obtain ⟨e0, f0⟩ := hrz.2 k _ HGET.out 0 _ rfl; obtain ⟨e1, f1⟩ := hrz.2 k _ HGET.out 1 _ rfl; obtain ⟨e2, f2⟩ := hrz.2 k _ HGET.out 2 _ rfl; obtain ⟨e3, f3⟩ := hrz.2 k _ HGET.out 3 _ rfl; rw [← HJ.out] at e0 f0 e1 f1 e2 f2 e3 f3; simp only [Nat.add_zero] at e0 f0; have HRZ := Lib.hid hrz; clear hrz; have hzl : w.heap.size < wz.heap.size := HRZ.out.1))
      all_goals (
        have hput := HRZ.out.put4 (v0 := .string s) (v1 := .int .i64 ka) (v2 := .int .i64 kb) (v3 := .int .i64 z) HGET.out (rowsTo_len n ks k) HJ.out
        rw [HSET.out] at hput
        have hbl : Below w.heap.size w ((((wz.setCell ⟨w.heap.size, j, none⟩ (.string s)).setCell ⟨w.heap.size, j + 1, none⟩ (.int .i64 ka)).setCell ⟨w.heap.size, j + 2, none⟩ (.int .i64 kb)).setCell ⟨w.heap.size, j + 3, none⟩ (.int .i64 z)) :=
          ((((HBA.out.drew.trans (hbz.mono (by simp; omega))).setCell (p := ⟨w.heap.size, j, none⟩) (Nat.le_refl _) _).setCell (p := ⟨w.heap.size, j + 1, none⟩) (Nat.le_refl _) _).setCell (p := ⟨w.heap.size, j + 2, none⟩) (Nat.le_refl _) _).setCell (p := ⟨w.heap.size, j + 3, none⟩) (Nat.le_refl _) _
        have HPUT := Lib.hid hput
        have HBL := Lib.hid hbl
        clear hput hbl
        go_wp2_with fail
        refine ⟨⟨k + 1, by omega, by go_num, HPUT.out, HBL.out⟩, ?_⟩
        simp [intOf]; omega)
    · obtain rfl : k = la := by omega
      go_wp2_with fail
      go_ret
      have e : rowsTo n ks k = ks.map (acell n) := by rw [← HL.out]; exact rowsTo_all n ks
      have := HR.out
      rw [e] at this
      exact ⟨_, rfl, Nat.le_refl _, this, hb⟩

end Go.Proofs.YthhcchdjeeigpaaDoor
