/- Package parse's reader: names. Rows of things that grow by append: each thing's own memory stays. What a call of the reader's tells. Package parse's row at api.Type. Package parse's row at api.Expr. Package parse's row at api.Con. Package parse's row at api.Alt. The end of a call of the reader's: its result lies in a block of its own (Nb). Package parse's bracket at api.Type. Package parse's bracket at api.Expr. Package parse's reader: variable, tupleType. -/
import Derived.Test.YtccilgemfkdmkaaZB
import Derived.Laws.OwnMore
namespace Go.Proofs.Ytccilgemfkdmkaa
open Go.RowKit Go.Maps
set_option linter.unusedVariables false
set_option linter.unusedSimpArgs false

theorem Try.zstrInfo : (Try.prog.info? 9).map (fun i => (i.zero, i.size, i.bytes)) = some (some (.string ⟨#[]⟩), 1, 16) := by kernel_rfl
theorem own_out {R : Nat} {w w' : World} {base n size : Nat} {e : TypeId} {v : Value} {xs : List Value} (h : w.ownsRow base e size v n xs) (ho : Out (fun b => b = R) w w') (hR : R < base) : w'.ownsRow base e size v n xs :=
  own_agree h fun q hq => by have := ownsRow_lo h q hq; exact ho.block q this.2 (by omega)
theorem own_shape {w : World} {base n size : Nat} {e : TypeId} {v : Value} {xs : List Value} (h : w.ownsRow base e size v n xs) : ∃ a c, v = .slice a n c := by
  obtain ⟨_, ⟨rfl, h0⟩ | ⟨g, cap, cur, rfl, _⟩⟩ := h
  · exact ⟨none, 0, by rw [h0]⟩
  · exact ⟨_, _, rfl⟩
theorem own_nil {w : World} {base n size m c : Nat} {e : TypeId} {a : Option Addr} {xs : List Value} (h : w.ownsRow base e size (.slice a m c) n xs) : a = none → m = 0 ∧ c = 0 := by
  intro ha
  subst ha
  obtain ⟨_, ⟨h1, h0⟩ | ⟨g, cap, cur, h1, _⟩⟩ := h
  · cases h1; exact ⟨rfl, rfl⟩
  · cases h1
theorem strsC_ins (S : Nat → Prop) (w : World) : ∀ l : List By, InS S w (strsC l) (l.map fun s => Value.string (strB s))
  | [] => InS.nil
  | s :: r => InS.cons (.v _) (strsC_ins S w r)
theorem news_at {w : World} {t : TypeId} {cs : List Value} {H : Nat} (hH : w.heap.size = H) : ∀ j u, cs[j]? = some u → (w.alloc (.cells cs.toArray t)).cell? ((⟨H, 0, none⟩ : Addr).add j) = some u := news_of hH

set_option maxRecDepth 100000 in
set_option maxHeartbeats 2000000 in
theorem k_names {c : Cx} {W0 W : World} {σ : PS} (h : Car c W0 W σ) {A : List By × PS} (hA : σ.names = A) :
    Calls Try.prog 99 #[.pointer (some ⟨c.R, 0, none⟩)] W fun e w' => ∃ a cp, e = .returned (.slice a A.1.length cp) ∧ InC (New W0) w' (.s A.1.length 1 (strsC A.1)) (.slice a A.1.length cp) ∧ (a = none → A.1.length = 0 ∧ cp = 0) ∧ Car c W0 w' A.2 ∧ Out (fun b => b = c.R) W w' := by
  subst hA
  obtain ⟨i0, hi0, hz0, hz1, hz2⟩ := info_parts Try.zstrInfo
  have H := Lib.hid h
  have hfs := fld_s
  have hR := h.lt
  have hlen := h.rd.len
  have hRW : c.R < W.heap.size := h.rd.lt
  clear h
  go_enter Try.func99, Try.ntmps99
  go_wp2_with fail
  go_loopg [3] (σ.ts.length) (fun gn v wr => ∃ (dn : List By) (τ : PS), Hid (Car c W0 wr τ) ∧ Hid (Out (fun b => b = c.R) W wr) ∧ Hid (wr.ownsRow W.heap.size 9 1 v dn.length (dn.map fun s => Value.string (strB s))) ∧ Hid (σ.names = (dn ++ τ.names.1, τ.names.2)) ∧ gn = τ.ts.length ∧ dn.length + τ.ts.length ≤ 1000000)
  case atStart => exact ⟨[], σ, H, Out.refl _ _, World.ownsRow_nil _ _ _ _, rfl, rfl, by simpa using hlen⟩
  case round =>
    obtain ⟨dn, τ, HC, HO, HW, HN, rfl, hl⟩ := hrel
    have H9 := H
    clear H
    cases hs : τ.sees sName with
    | true =>
      have hp := sees_pos hs (by decide)
      obtain ⟨A, hA⟩ : ∃ A, τ.take c.En sName = A := ⟨_, rfl⟩
      have HA := Lib.hid hA
      have HS := Lib.hid hs
      have hlt : A.2.ts.length < τ.ts.length := by rw [← hA]; exact take_lt hs (by decide)
      have hnm : Hid (σ.names = (dn ++ [A.1.s] ++ A.2.names.1, A.2.names.2)) := by
        show _ = _
        rw [HN.out, ← hA]
        unfold PS.take; rw [if_pos hs]
        obtain ⟨ts, st, at_⟩ := τ
        cases ts with
        | nil => simp at hp
        | cons t r =>
          have h1 : srt t = sName := of_decide_eq_true hs
          simp [PS.names, PS.head, PS.tail, namesL, h1]
      clear hA hs HN
      obtain ⟨L, hL⟩ : ∃ L, dn.length = L := ⟨_, rfl⟩
      have HL := Lib.hid hL
      rw [hL] at HW hl
      clear hL
      obtain ⟨va, vc, hv⟩ := own_shape HW.out
      have HLO := Lib.hid (ownsRow_lo HW.out)
      subst hv
      go_wp2_with (first
        | (go_at_call 54; refine (k_some HC.out _).mono ?_; clear HC; rintro e w1 ⟨rfl, HC, ho1⟩; replace HO := Lib.hid (HO.out.trans ho1); replace HW := Lib.hid (own_out HW.out ho1 hRW); clear ho1; replace HC := Lib.hid HC)
        | (go_at_call 57; refine (k_sees HC.out sName (sortFit (by decide) (by decide)) rfl rfl HS.out).mono ?_; clear HC; rintro e w2 ⟨rfl, HC, ho1⟩; replace HO := Lib.hid (HO.out.trans ho1); replace HW := Lib.hid (own_out HW.out ho1 hRW); clear ho1; replace HC := Lib.hid HC)
        | (go_at_call 59; refine (k_take HC.out sName (sortFit (by decide) (by decide)) (by decide) rfl rfl HA.out).mono ?_; clear HC; rintro e w3 ⟨rfl, HC, ho1⟩; replace HO := Lib.hid (HO.out.trans ho1); replace HW := Lib.hid (own_out HW.out ho1 hRW); clear ho1; replace HC := Lib.hid HC)
        | (at_builtin; refine wpList_append_lies _ rfl _ _ 53 rfl W.heap.size 9 i0 (.string ⟨#[]⟩) 1 16 Try.underlying53 hi0 hz0 hz1 hz2 rfl (by decide) _ L (dn.map fun s => Value.string (strB s)) rfl (HW.out.alloc _) ⟨w3.heap.size, 0, none⟩ 1 1 [.string (strB A.1.s)] rfl rfl (news_at (cs := [.string (strB A.1.s)]) rfl) (by simp [Value.oneCell']) (by decide) ?c3 ?c4 ?c5 _ rfl ?_))
      case c3 => unfold maxLen; omega
      case c4 => omega
      case c5 => have := HO.out.size; simp; omega
      intro g cap w9 hown9 hgrow hat hlt9
      have hcar := (HC.out.alloc (.cells #[.string (strB A.1.s)] 9)).grown H9.out (HO.out.alloc _) hgrow fun q hq => (HLO.out q hq).1
      have HC9 := Lib.hid hcar.1
      have HO9 := Lib.hid hcar.2
      have HW9 := Lib.hid hown9
      clear hcar hgrow hat hlt9 hown9 HC HO HW
      go_wp2_with fail
      go_roundg A.2.ts.length
      case measure => exact hlt
      case rel => exact ⟨dn ++ [A.1.s], A.2, HC9, HO9, by simpa [HL.out] using HW9, hnm, rfl, by simp [HL.out]; omega⟩
    | false =>
      have HS := Lib.hid hs
      have hnm : Hid (τ.names = ([], τ)) := by
        show _ = _
        obtain ⟨ts, st, at_⟩ := τ
        cases ts with
        | nil => rfl
        | cons t r =>
          have h1 : ¬ srt t = sName := of_decide_eq_false hs
          simp [PS.names, namesL, h1]
      obtain ⟨va, vc, hv⟩ := own_shape HW.out
      have hn2 : Hid (σ.names = (dn, τ)) := by show _ = _; rw [HN.out, hnm.out]; simp
      have HLO := Lib.hid (ownsRow_lo HW.out)
      subst hv
      clear hs HN hnm
      go_wp2_with (first
        | (go_at_call 54; refine (k_some HC.out _).mono ?_; clear HC; rintro e w1 ⟨rfl, HC, ho1⟩; replace HO := Lib.hid (HO.out.trans ho1); replace HW := Lib.hid (own_out HW.out ho1 hRW); clear ho1; replace HC := Lib.hid HC)
        | (go_at_call 57; refine (k_sees HC.out sName (sortFit (by decide) (by decide)) rfl rfl HS.out).mono ?_; clear HC; rintro e w2 ⟨rfl, HC, ho1⟩; replace HO := Lib.hid (HO.out.trans ho1); replace HW := Lib.hid (own_out HW.out ho1 hRW); clear ho1; replace HC := Lib.hid HC))
      go_ret
      rw [hn2.out]
      refine ⟨va, vc, rfl, ?_, own_nil HW.out, HC.out, HO.out⟩
      exact InC.of_owns HW.out (strsC_ins _ _ dn) (fun b hb => by have := HLO.out b hb; have := H9.out.size; unfold New; omega) (strsC_len dn)

end Go.Proofs.Ytccilgemfkdmkaa

namespace Go.Proofs.Ytccilgemfkdmkaa
open Go.RowKit Go.Maps
set_option linter.unusedVariables false
set_option linter.unusedSimpArgs false

theorem sS_ne (t : By) : (sS t).k ≠ 0 := Nat.succ_ne_zero 4
/-- A thing, the reader behind it, nothing else turned. -/
def Tells {α : Type} (c : Cx) (W0 W : World) (cs : α → List Cl) (r : α × PS) (e : Ending) (w' : World) : Prop := ∃ v, e = .returned v ∧ IsV (New W0) w' (cs r.1) v ∧ Car c W0 w' r.2 ∧ Out (fun b => b = c.R) W w'
/-- A row of a call's own, of things whose memory is not the row's. -/
def GR (W0 : World) (base : Nat) (e : TypeId) (k : Nat) (w : World) (v : Value) (n : Nat) (cs : List Cl) (us : List Value) : Prop :=
  w.ownsRow base e k v n us ∧ InS (fun b => New W0 b ∧ v.ownBlock ≠ some b) w cs us
theorem GR.out {W0 : World} {base : Nat} {e : TypeId} {k n R : Nat} {w w' : World} {v : Value} {cs : List Cl} {us : List Value} (h : GR W0 base e k w v n cs us) (ho : Out (fun b => b = R) w w') (hR : R < base) (hR0 : R < W0.heap.size) : GR W0 base e k w' v n cs us :=
  ⟨own_out h.1 ho hR, h.2.out ho fun b _ hb he => by have := hb.1; unfold New at this; subst he; omega⟩
theorem GR.one {W0 w : World} {base k : Nat} {e : TypeId} {cs : List Cl} {us : List Value} (hb : base ≤ w.heap.size) (h : InS (New W0) w cs us) (hk : us.length = k) : GR W0 base e k (w.alloc (.cells us.toArray e)) (.slice (some ⟨w.heap.size, 0, none⟩) 1 1) 1 cs us := by
  refine ⟨?_, ?_⟩
  · have := World.ownsRow_lit (base := base) (e := e) (size := k) w us.toArray 1 hb (by decide) (by simp [hk])
    simpa using this
  · exact h.agree (fun b h1 h2 => ⟨⟨h1, fun q => by have : w.heap.size = b := Option.some.inj q; omega⟩, Below.heap_alloc _ _ b h2⟩) (by simp)
theorem GR.push {W0 W1 w w9 : World} {base k n m g cap : Nat} {e : TypeId} {v : Value} {cs ds : List Cl} {us vs : List Value} {o : Obj} (h : GR W0 base e k w v n cs us) (hx : InS (New W1) w ds vs) (hv : ∀ q, v.ownBlock = some q → q < W1.heap.size) (hW : W0.heap.size ≤ W1.heap.size)
    (hown : w9.ownsRow base e k (.slice (some ⟨g, 0, none⟩) m cap) m (us ++ vs)) (hg : (w.alloc o).grownBy w9 v.ownBlock) (hat : v.ownBlock = some g ∨ g = w.heap.size + 1) : GR W0 base e k w9 (.slice (some ⟨g, 0, none⟩) m cap) m (cs ++ ds) (us ++ vs) := by
  have hsz : (w.alloc o).heap.size = w.heap.size + 1 := by simp
  have key : ∀ b, New W0 b → b < w.heap.size → v.ownBlock ≠ some b → (New W0 b ∧ (Value.slice (some ⟨g, 0, none⟩) m cap).ownBlock ≠ some b) ∧ w9.heap[b]? = w.heap[b]? := by
    intro b h1 h2 h3
    refine ⟨⟨h1, fun q => ?_⟩, (hg.block b (by omega) (fun q => h3 q.symm)).trans (Below.heap_alloc w o b h2)⟩
    have e1 : g = b := Option.some.inj q
    rcases hat with hat | hat
    · rw [e1] at hat; exact h3 hat
    · omega
  have hs9 : w.heap.size ≤ w9.heap.size := by have := hg.size; omega
  refine ⟨hown, InS.app (h.2.agree (fun b h1 h2 => key b h1.1 h2 h1.2) hs9) (hx.agree (fun b h1 h2 => key b (by unfold New at *; omega) h2 (fun q => ?_)) hs9)⟩
  have := hv b q
  unfold New at h1; omega
theorem GR.done {W0 w : World} {base k n : Nat} {e : TypeId} {v : Value} {cs : List Cl} {us : List Value} (h : GR W0 base e k w v n cs us) (hb : W0.heap.size ≤ base) (hl : cs.length = n * k) : InC (New W0) w (.s n k cs) v :=
  InC.of_owns h.1 (h.2.mono fun b _ hb => hb.1) (fun b hv => by have := (ownsRow_lo h.1 b hv).1; unfold New; omega) hl
theorem GR.lt {W0 w : World} {base k n : Nat} {e : TypeId} {v : Value} {cs : List Cl} {us : List Value} (h : GR W0 base e k w v n cs us) : ∀ q, v.ownBlock = some q → base ≤ q ∧ q < w.heap.size := ownsRow_lo h.1
theorem GR.shape {W0 w : World} {base k n : Nat} {e : TypeId} {v : Value} {cs : List Cl} {us : List Value} (h : GR W0 base e k w v n cs us) : ∃ a c, v = .slice a n c := own_shape h.1
theorem GR.nil (W0 w : World) (base : Nat) (e : TypeId) (k : Nat) : GR W0 base e k w (.slice none 0 0) 0 [] [] := ⟨World.ownsRow_nil _ _ _ _, InS.nil⟩

/-! ### Rows of what one reads, at the side of the mathematics -/
theorem rowsL_go {A : Type} {sep : Srt} {most : Nat} {one : PS → A × PS} {f : Nat} {l : List A} {τ : PS} (hf : τ.ts.length ≤ f) (h1 : l.length < most) (h2 : τ.sees sep = true) (h0 : sep.k ≠ 0) (hd : Dec one) :
    ∃ f', rowsL sep most one f l τ = rowsL sep most one f' (l ++ [(one τ.tail).1]) (one τ.tail).2 ∧ (one τ.tail).2.ts.length ≤ f' ∧ (one τ.tail).2.ts.length < τ.ts.length := by
  have hp := sees_pos h2 h0
  have h3 := hd τ.tail
  rw [tail_len] at h3
  obtain ⟨f', rfl⟩ : ∃ f', f = f' + 1 := ⟨f - 1, by omega⟩
  exact ⟨f', by rw [rowsL, if_pos ⟨h1, h2⟩], by omega, by omega⟩
theorem rowsL_end {A : Type} {sep : Srt} {most : Nat} {one : PS → A × PS} {f : Nat} {l : List A} {τ : PS} (h : ¬ (l.length < most ∧ τ.sees sep = true)) : rowsL sep most one f l τ = (l, τ) := by
  cases f with
  | zero => rfl
  | succ f => rw [rowsL, if_neg h]
theorem IsV.cn {S : Nat → Prop} {w : World} {v : Value} {x : Cn} (h : IsV S w (cnC x) v) : ∃ (a : Option Addr) (cp : Nat), v = .agg #[.string (strB x.s), .int .i64 x.p, .slice a x.args.length cp] ∧ InC S w (.s x.args.length 4 (tysC x.args)) (.slice a x.args.length cp) := by
  obtain ⟨us, rfl, h⟩ := h
  unfold cnC at h
  obtain ⟨u0, r0, rfl, l0⟩ := three_cons (n := 2) h.1
  obtain ⟨u1, r1, rfl, l1⟩ := three_cons (n := 1) l0
  obtain ⟨u2, r2, rfl, l2⟩ := three_cons (n := 0) l1
  obtain rfl := List.eq_nil_of_length_eq_zero l2
  obtain rfl := h.head.val
  obtain rfl := h.tail.head.val
  obtain ⟨a, cp, rfl, _, _⟩ := h.tail.tail.head.slice
  exact ⟨a, cp, rfl, h.tail.tail.head⟩
theorem IsV.al {S : Nat → Prop} {w : World} {v : Value} {x : Al} (h : IsV S w (alC x) v) : ∃ (p : Int) (s : By) (a1 : Option Addr) (m1 c1 : Nat) (k q n : Int) (s2 : By) (a2 a3 : Option Addr) (m2 m3 c2 c3 : Nat), v = .agg #[.int .i64 p, .string (strB s), .slice a1 m1 c1, .int .i64 k, .int .i64 q, .string (strB s2), .int .i64 n, .slice a2 m2 c2, .slice a3 m3 c3] := by
  cases x with
  | mk p s names b =>
    obtain ⟨us, rfl, h⟩ := h
    unfold alC at h
    obtain ⟨u0, r0, rfl, l0⟩ := three_cons (n := exC b |>.length.succ.succ) (by simpa using h.1)
    obtain ⟨u1, r1, rfl, l1⟩ := three_cons (n := (exC b).length + 1) l0
    obtain ⟨u2, r2, rfl, l2⟩ := three_cons (n := (exC b).length) l1
    obtain rfl := h.head.val
    obtain rfl := h.tail.head.val
    obtain ⟨a, cp, rfl, _, _⟩ := h.tail.tail.head.slice
    obtain ⟨k, q, n, s2, a2, a3, m2, m3, c2, c3, hv, _⟩ := IsV.exs (x := b) (v := .agg r2.toArray) ⟨r2, rfl, h.tail.tail.tail⟩
    have e : r2 = [.int .i64 k, .int .i64 q, .string (strB s2), .int .i64 n, .slice a2 m2 c2, .slice a3 m3 c3] := by
      have := congrArg (fun v => v.cells.toList) hv
      simpa [Value.cells] using this
    subst e
    exact ⟨p, s, a, _, cp, k, q, n, s2, a2, a3, m2, m3, c2, c3, rfl⟩

end Go.Proofs.Ytccilgemfkdmkaa

namespace Go.Proofs.Ytccilgemfkdmkaa
open Go.RowKit Go.Maps
set_option linter.unusedVariables false
set_option linter.unusedSimpArgs false

theorem Try.zinfoT : (Try.prog.info? 63).map (fun i => (i.zero, i.size, i.bytes)) = some (some (.agg #[.int .i64 0, .int .i64 0, .string ⟨#[]⟩, .slice none 0 0]), 4, 56) := by kernel_rfl

set_option maxRecDepth 100000 in
set_option maxHeartbeats 4000000 in
theorem k_rowT {c : Cx} {n : Nat} {one : PS → Ty × PS} (HONE : ∀ (W0 W : World) (τ : PS), Car c W0 W τ → τ.ts.length < n → Calls Try.prog 138 #[.pointer (some ⟨c.R, 0, none⟩)] W (Tells c W0 W tyC (one τ)))
    (hdec : Dec one) {W0 W : World} {σ : PS} (h : Car c W0 W σ) (hlen : σ.ts.length < n) (t : By) (ht : t.length ≤ 1000000) {S : ByteArray} (hS : strB t = S) (most : Nat) (hm0 : 1 ≤ most) (hm : most ≤ 1000000) {R : List Ty × PS} (hR : rowsF (sS t) most one σ = R) :
    Calls Try.prog 140 #[.pointer (some ⟨c.R, 0, none⟩), .string S, .int .i64 (most : Int), .func (.func 138) #[.pointer (some ⟨c.R, 0, none⟩)] #[]] W fun e w' =>
      ∃ a cp, e = .returned (.slice a R.1.length cp) ∧ InC (New W0) w' (.s R.1.length 4 (R.1.flatMap tyC)) (.slice a R.1.length cp) ∧ Car c W0 w' R.2 ∧ Out (fun b => b = c.R) W w' := by
  obtain ⟨i0, hi0, hz0, hz1, hz2⟩ := info_parts Try.zinfoT
  have H := Lib.hid h
  have hR0 := h.lt
  have hRW : c.R < W.heap.size := h.rd.lt
  have HONE2 := Lib.hid HONE
  have HRR := Lib.hid hR
  have HSS := Lib.hid hS
  have HFT : Hid ((sS t).fit) := sortFit (s := sS t) (by show 5 ≤ 10; decide) ht
  have HDC := Lib.hid hdec
  have hlen6 := h.rd.len
  obtain ⟨x0, hx0⟩ : ∃ x0, one σ = x0 := ⟨_, rfl⟩
  have hx0l : x0.2.ts.length ≤ σ.ts.length := by rw [← hx0]; exact hdec σ
  have HX0 : Hid (∀ (W0 W : World), Car c W0 W σ → Calls Try.prog 138 #[.pointer (some ⟨c.R, 0, none⟩)] W (Tells c W0 W tyC x0)) := fun W0 W hc => hx0 ▸ HONE W0 W σ hc hlen
  have HR0 : Hid (rowsL (sS t) most one x0.2.ts.length [x0.1] x0.2 = R) := by show _ = _; rw [← hx0]; exact hR
  clear h HONE hR hS hdec hx0 ht
  go_enter Try.func140, Try.ntmps140
  go_wp2_with (go_at_call 138; refine (HX0.out _ _ H.out).mono ?_; rintro e w1 ⟨v1, rfl, hv1, hc1, ho1⟩; obtain ⟨z0, z1, z2, z3, z4, z5, hz9⟩ := hv1.tys; subst hz9; have HV1 := Lib.hid hv1; have HC1 := Lib.hid hc1; have HO1 := Lib.hid ho1; clear hv1 hc1 ho1)
  go_loopg [9] (x0.2.ts.length) (fun gn v wr => ∃ (l : List Ty) (τ : PS) (us : List Value) (f : Nat), Hid (Car c W0 wr τ) ∧ Hid (Out (fun b => b = c.R) W wr) ∧ Hid (GR W0 W.heap.size 63 4 wr v l.length (l.flatMap tyC) us) ∧ Hid (rowsL (sS t) most one f l τ = R) ∧ gn = τ.ts.length ∧ τ.ts.length ≤ f ∧ l.length + τ.ts.length ≤ 1000001 ∧ τ.ts.length < n)
  case atStart =>
    refine ⟨[x0.1], x0.2, [.int .i64 z0, .int .i64 z1, .string (strB z2), .slice z3 z4 z5], x0.2.ts.length, HC1.out.alloc _, HO1.out.alloc _, ?_, HR0, rfl, Nat.le_refl _, by simp; omega, by omega⟩
    have := GR.one (base := W.heap.size) (e := 63) (k := 4) HO1.out.size (HV1.out.cells) rfl
    exact Lib.hid (by simpa [Value.cells] using this)
  case round =>
    obtain ⟨l, τ, us, f, HC, HO, HG, HL, rfl, hf, hl, hn⟩ := hrel
    clear HX0 HR0 HV1 HC1 HO1
    obtain ⟨va, vc, hv⟩ := HG.out.shape
    have HLO := Lib.hid HG.out.lt
    by_cases hlt : l.length < most
    · have hd : decide (l.length < most) = true := decide_eq_true (by omega)
      cases hs : τ.sees (sS t) with
      | true =>
        have HS := Lib.hid hs
        obtain ⟨f', hf1, hf2, hf3⟩ := rowsL_go hf hlt hs (sS_ne t) HDC.out
        have HL2 : Hid (rowsL (sS t) most one f' (l ++ [(one τ.tail).1]) (one τ.tail).2 = R) := by show _ = _; rw [← hf1]; exact HL.out
        have HSK : Hid (τ.skip (sS t) = (true, τ.tail)) := by show _ = _; unfold PS.skip; rw [if_pos hs]
        have htl : τ.tail.ts.length < n := by rw [tail_len]; omega
        have HX1 : Hid (∀ (W0 W : World), Car c W0 W τ.tail → Calls Try.prog 138 #[.pointer (some ⟨c.R, 0, none⟩)] W (Tells c W0 W tyC (one τ.tail))) := fun W0 W hc => HONE2.out W0 W τ.tail hc htl
        have hon : (one τ.tail).2.ts.length < n := by omega
        obtain ⟨L, hL⟩ : ∃ L, l.length = L := ⟨_, rfl⟩
        have HLL := Lib.hid hL
        rw [hL] at HG hl hd hv
        subst hv
        clear hL hs hf1 HL hlt
        go_wp2_with (first
          | (go_at_call 56; refine (k_sign HC.out _).mono ?_; clear HC; rintro e w2 ⟨rfl, HC, ho1⟩; replace HO := Lib.hid (HO.out.trans ho1); replace HG := Lib.hid (HG.out.out ho1 hRW hR0); clear ho1; replace HC := Lib.hid HC)
          | (go_at_call 116; refine (k_skip HC.out (sS t) HFT.out (sS_ne t) rfl HSS.out HSK.out).mono ?_; clear HC; rintro e w3 ⟨rfl, HC, ho1⟩; replace HO := Lib.hid (HO.out.trans ho1); replace HG := Lib.hid (HG.out.out ho1 hRW hR0); clear ho1; replace HC := Lib.hid HC)
          | (go_at_call 138; refine (HX1.out w3 _ ⟨HC.out.rd, Out.refl _ _, HC.out.rd.lt⟩).mono ?_; rintro e w4 ⟨v1, rfl, hv1, hc4, ho4⟩; obtain ⟨z0, z1, z2, z3, z4, z5, hz9⟩ := hv1.tys; subst hz9; have HQ4 := Lib.hid HO.out.size; replace HC := Lib.hid (HC.out.next hc4.rd ho4); have HQ := Lib.hid HG.out.lt; replace HO := Lib.hid (HO.out.trans ho4); replace HG := Lib.hid (HG.out.out ho4 hRW hR0); have HV1 := Lib.hid hv1; clear hc4 ho4 hv1)
          | (at_builtin; refine wpList_append_lies _ rfl _ _ 57 rfl W.heap.size 63 i0 (.agg #[.int .i64 0, .int .i64 0, .string ⟨#[]⟩, .slice none 0 0]) 4 56 Try.underlying57 hi0 hz0 hz1 hz2 rfl (by decide) _ L us rfl (HG.out.1.alloc _) ⟨w4.heap.size, 0, none⟩ 1 1 [.int .i64 z0, .int .i64 z1, .string (strB z2), .slice z3 z4 z5] rfl rfl (news_at (cs := [.int .i64 z0, .int .i64 z1, .string (strB z2), .slice z3 z4 z5]) rfl) (by simp [Value.oneCell']) (by decide) ?c3 ?c4 ?c5 _ rfl ?_))
        case c3 => unfold maxLen; omega
        case c4 => omega
        case c5 => have := HO.out.size; simp; omega
        intro g cap w9 hown9 hgrow hat hlt9
        have hcar := (HC.out.alloc (.cells #[.int .i64 z0, .int .i64 z1, .string (strB z2), .slice z3 z4 z5] 63)).grown H.out (HO.out.alloc _) hgrow fun q hq => (HLO.out q hq).1
        have HC9 := Lib.hid hcar.1
        have HO9 := Lib.hid hcar.2
        have HG9 := Lib.hid (HG.out.push (W1 := w3) (ds := tyC (one τ.tail).1) (vs := [.int .i64 z0, .int .i64 z1, .string (strB z2), .slice z3 z4 z5]) (by simpa [Value.cells] using HV1.out.cells) (fun q hq => (HQ.out q hq).2) (Nat.le_trans H.out.size HQ4.out) hown9 hgrow hat)
        clear hcar hgrow hat hlt9 hown9 HC HO HG HV1 HQ
        go_wp2_with fail
        go_roundg (one τ.tail).2.ts.length
        case measure => exact hf3
        case rel => exact ⟨l ++ [(one τ.tail).1], (one τ.tail).2, _, f', HC9, HO9, by simpa [HLL.out, List.flatMap_append] using HG9, HL2, rfl, hf2, by simp [HLL.out]; omega, hon⟩
      | false =>
        have HSK : Hid (τ.skip (sS t) = (false, τ)) := by show _ = _; unfold PS.skip; rw [if_neg (by rw [hs]; decide)]
        have HE : Hid (R = (l, τ)) := by show _ = _; rw [← HL.out]; exact rowsL_end (by rw [hs]; simp)
        subst hv
        clear hs HL hlt
        go_wp2_with (first
          | (go_at_call 56; refine (k_sign HC.out _).mono ?_; clear HC; rintro e w2 ⟨rfl, HC, ho1⟩; replace HO := Lib.hid (HO.out.trans ho1); replace HG := Lib.hid (HG.out.out ho1 hRW hR0); clear ho1; replace HC := Lib.hid HC)
          | (go_at_call 116; refine (k_skip HC.out (sS t) HFT.out (sS_ne t) rfl HSS.out HSK.out).mono ?_; clear HC; rintro e w3 ⟨rfl, HC, ho1⟩; replace HO := Lib.hid (HO.out.trans ho1); replace HG := Lib.hid (HG.out.out ho1 hRW hR0); clear ho1; replace HC := Lib.hid HC))
        go_ret
        rw [HE.out]
        exact ⟨va, vc, rfl, HG.out.done H.out.size (flatC_len tyC_len l), HC.out, HO.out⟩
    · have hd : decide (l.length < most) = false := decide_eq_false (by omega)
      have HE : Hid (R = (l, τ)) := by show _ = _; rw [← HL.out]; exact rowsL_end (fun q => hlt q.1)
      subst hv
      clear HL hlt
      go_wp2_with fail
      go_ret
      rw [HE.out]
      exact ⟨va, vc, rfl, HG.out.done H.out.size (flatC_len tyC_len l), HC.out, HO.out⟩

end Go.Proofs.Ytccilgemfkdmkaa

namespace Go.Proofs.Ytccilgemfkdmkaa
open Go.RowKit Go.Maps
set_option linter.unusedVariables false
set_option linter.unusedSimpArgs false

theorem Try.zinfoE : (Try.prog.info? 43).map (fun i => (i.zero, i.size, i.bytes)) = some (some (.agg #[.int .i64 0, .int .i64 0, .string ⟨#[]⟩, .int .i64 0, .slice none 0 0, .slice none 0 0]), 6, 88) := by kernel_rfl

set_option maxRecDepth 100000 in
set_option maxHeartbeats 4000000 in
theorem k_rowE {c : Cx} {n : Nat} {one : PS → Ex × PS} (HONE : ∀ (W0 W : World) (τ : PS), Car c W0 W τ → τ.ts.length < n → Calls Try.prog 105 #[.pointer (some ⟨c.R, 0, none⟩)] W (Tells c W0 W exC (one τ)))
    (hdec : Dec one) {W0 W : World} {σ : PS} (h : Car c W0 W σ) (hlen : σ.ts.length < n) (t : By) (ht : t.length ≤ 1000000) {S : ByteArray} (hS : strB t = S) (most : Nat) (hm0 : 1 ≤ most) (hm : most ≤ 1000000) {R : List Ex × PS} (hR : rowsF (sS t) most one σ = R) :
    Calls Try.prog 142 #[.pointer (some ⟨c.R, 0, none⟩), .string S, .int .i64 (most : Int), .func (.func 105) #[.pointer (some ⟨c.R, 0, none⟩)] #[]] W fun e w' =>
      ∃ a cp, e = .returned (.slice a R.1.length cp) ∧ InC (New W0) w' (.s R.1.length 6 (R.1.flatMap exC)) (.slice a R.1.length cp) ∧ Car c W0 w' R.2 ∧ Out (fun b => b = c.R) W w' := by
  obtain ⟨i0, hi0, hz0, hz1, hz2⟩ := info_parts Try.zinfoE
  have H := Lib.hid h
  have hR0 := h.lt
  have hRW : c.R < W.heap.size := h.rd.lt
  have HONE2 := Lib.hid HONE
  have HRR := Lib.hid hR
  have HSS := Lib.hid hS
  have HFT : Hid ((sS t).fit) := sortFit (s := sS t) (by show 5 ≤ 10; decide) ht
  have HDC := Lib.hid hdec
  have hlen6 := h.rd.len
  obtain ⟨x0, hx0⟩ : ∃ x0, one σ = x0 := ⟨_, rfl⟩
  have hx0l : x0.2.ts.length ≤ σ.ts.length := by rw [← hx0]; exact hdec σ
  have HX0 : Hid (∀ (W0 W : World), Car c W0 W σ → Calls Try.prog 105 #[.pointer (some ⟨c.R, 0, none⟩)] W (Tells c W0 W exC x0)) := fun W0 W hc => hx0 ▸ HONE W0 W σ hc hlen
  have HR0 : Hid (rowsL (sS t) most one x0.2.ts.length [x0.1] x0.2 = R) := by show _ = _; rw [← hx0]; exact hR
  clear h HONE hR hS hdec hx0 ht
  go_enter Try.func142, Try.ntmps142
  go_wp2_with (go_at_call 105; refine (HX0.out _ _ H.out).mono ?_; rintro e w1 ⟨v1, rfl, hv1, hc1, ho1⟩; obtain ⟨z0, z1, z2, z3, z4, z5, z6, z7, z8, z9, hz9, _⟩ := hv1.exs; subst hz9; have HV1 := Lib.hid hv1; have HC1 := Lib.hid hc1; have HO1 := Lib.hid ho1; clear hv1 hc1 ho1)
  go_loopg [9] (x0.2.ts.length) (fun gn v wr => ∃ (l : List Ex) (τ : PS) (us : List Value) (f : Nat), Hid (Car c W0 wr τ) ∧ Hid (Out (fun b => b = c.R) W wr) ∧ Hid (GR W0 W.heap.size 43 6 wr v l.length (l.flatMap exC) us) ∧ Hid (rowsL (sS t) most one f l τ = R) ∧ gn = τ.ts.length ∧ τ.ts.length ≤ f ∧ l.length + τ.ts.length ≤ 1000001 ∧ τ.ts.length < n)
  case atStart =>
    refine ⟨[x0.1], x0.2, [.int .i64 z0, .int .i64 z1, .string (strB z3), .int .i64 z2, .slice z4 z6 z8, .slice z5 z7 z9], x0.2.ts.length, HC1.out.alloc _, HO1.out.alloc _, ?_, HR0, rfl, Nat.le_refl _, by simp; omega, by omega⟩
    have := GR.one (base := W.heap.size) (e := 43) (k := 6) HO1.out.size (HV1.out.cells) rfl
    exact Lib.hid (by simpa [Value.cells] using this)
  case round =>
    obtain ⟨l, τ, us, f, HC, HO, HG, HL, rfl, hf, hl, hn⟩ := hrel
    clear HX0 HR0 HV1 HC1 HO1
    obtain ⟨va, vc, hv⟩ := HG.out.shape
    have HLO := Lib.hid HG.out.lt
    by_cases hlt : l.length < most
    · have hd : decide (l.length < most) = true := decide_eq_true (by omega)
      cases hs : τ.sees (sS t) with
      | true =>
        have HS := Lib.hid hs
        obtain ⟨f', hf1, hf2, hf3⟩ := rowsL_go hf hlt hs (sS_ne t) HDC.out
        have HL2 : Hid (rowsL (sS t) most one f' (l ++ [(one τ.tail).1]) (one τ.tail).2 = R) := by show _ = _; rw [← hf1]; exact HL.out
        have HSK : Hid (τ.skip (sS t) = (true, τ.tail)) := by show _ = _; unfold PS.skip; rw [if_pos hs]
        have htl : τ.tail.ts.length < n := by rw [tail_len]; omega
        have HX1 : Hid (∀ (W0 W : World), Car c W0 W τ.tail → Calls Try.prog 105 #[.pointer (some ⟨c.R, 0, none⟩)] W (Tells c W0 W exC (one τ.tail))) := fun W0 W hc => HONE2.out W0 W τ.tail hc htl
        have hon : (one τ.tail).2.ts.length < n := by omega
        obtain ⟨L, hL⟩ : ∃ L, l.length = L := ⟨_, rfl⟩
        have HLL := Lib.hid hL
        rw [hL] at HG hl hd hv
        subst hv
        clear hL hs hf1 HL hlt
        go_wp2_with (first
          | (go_at_call 56; refine (k_sign HC.out _).mono ?_; clear HC; rintro e w2 ⟨rfl, HC, ho1⟩; replace HO := Lib.hid (HO.out.trans ho1); replace HG := Lib.hid (HG.out.out ho1 hRW hR0); clear ho1; replace HC := Lib.hid HC)
          | (go_at_call 116; refine (k_skip HC.out (sS t) HFT.out (sS_ne t) rfl HSS.out HSK.out).mono ?_; clear HC; rintro e w3 ⟨rfl, HC, ho1⟩; replace HO := Lib.hid (HO.out.trans ho1); replace HG := Lib.hid (HG.out.out ho1 hRW hR0); clear ho1; replace HC := Lib.hid HC)
          | (go_at_call 105; refine (HX1.out w3 _ ⟨HC.out.rd, Out.refl _ _, HC.out.rd.lt⟩).mono ?_; rintro e w4 ⟨v1, rfl, hv1, hc4, ho4⟩; obtain ⟨z0, z1, z2, z3, z4, z5, z6, z7, z8, z9, hz9, _⟩ := hv1.exs; subst hz9; have HQ4 := Lib.hid HO.out.size; replace HC := Lib.hid (HC.out.next hc4.rd ho4); have HQ := Lib.hid HG.out.lt; replace HO := Lib.hid (HO.out.trans ho4); replace HG := Lib.hid (HG.out.out ho4 hRW hR0); have HV1 := Lib.hid hv1; clear hc4 ho4 hv1)
          | (at_builtin; refine wpList_append_lies _ rfl _ _ 40 rfl W.heap.size 43 i0 (.agg #[.int .i64 0, .int .i64 0, .string ⟨#[]⟩, .int .i64 0, .slice none 0 0, .slice none 0 0]) 6 88 Try.underlying40 hi0 hz0 hz1 hz2 rfl (by decide) _ L us rfl (HG.out.1.alloc _) ⟨w4.heap.size, 0, none⟩ 1 1 [.int .i64 z0, .int .i64 z1, .string (strB z3), .int .i64 z2, .slice z4 z6 z8, .slice z5 z7 z9] rfl rfl (news_at (cs := [.int .i64 z0, .int .i64 z1, .string (strB z3), .int .i64 z2, .slice z4 z6 z8, .slice z5 z7 z9]) rfl) (by simp [Value.oneCell']) (by decide) ?c3 ?c4 ?c5 _ rfl ?_))
        case c3 => unfold maxLen; omega
        case c4 => omega
        case c5 => have := HO.out.size; simp; omega
        intro g cap w9 hown9 hgrow hat hlt9
        have hcar := (HC.out.alloc (.cells #[.int .i64 z0, .int .i64 z1, .string (strB z3), .int .i64 z2, .slice z4 z6 z8, .slice z5 z7 z9] 43)).grown H.out (HO.out.alloc _) hgrow fun q hq => (HLO.out q hq).1
        have HC9 := Lib.hid hcar.1
        have HO9 := Lib.hid hcar.2
        have HG9 := Lib.hid (HG.out.push (W1 := w3) (ds := exC (one τ.tail).1) (vs := [.int .i64 z0, .int .i64 z1, .string (strB z3), .int .i64 z2, .slice z4 z6 z8, .slice z5 z7 z9]) (by simpa [Value.cells] using HV1.out.cells) (fun q hq => (HQ.out q hq).2) (Nat.le_trans H.out.size HQ4.out) hown9 hgrow hat)
        clear hcar hgrow hat hlt9 hown9 HC HO HG HV1 HQ
        go_wp2_with fail
        go_roundg (one τ.tail).2.ts.length
        case measure => exact hf3
        case rel => exact ⟨l ++ [(one τ.tail).1], (one τ.tail).2, _, f', HC9, HO9, by simpa [HLL.out, List.flatMap_append] using HG9, HL2, rfl, hf2, by simp [HLL.out]; omega, hon⟩
      | false =>
        have HSK : Hid (τ.skip (sS t) = (false, τ)) := by show _ = _; unfold PS.skip; rw [if_neg (by rw [hs]; decide)]
        have HE : Hid (R = (l, τ)) := by show _ = _; rw [← HL.out]; exact rowsL_end (by rw [hs]; simp)
        subst hv
        clear hs HL hlt
        go_wp2_with (first
          | (go_at_call 56; refine (k_sign HC.out _).mono ?_; clear HC; rintro e w2 ⟨rfl, HC, ho1⟩; replace HO := Lib.hid (HO.out.trans ho1); replace HG := Lib.hid (HG.out.out ho1 hRW hR0); clear ho1; replace HC := Lib.hid HC)
          | (go_at_call 116; refine (k_skip HC.out (sS t) HFT.out (sS_ne t) rfl HSS.out HSK.out).mono ?_; clear HC; rintro e w3 ⟨rfl, HC, ho1⟩; replace HO := Lib.hid (HO.out.trans ho1); replace HG := Lib.hid (HG.out.out ho1 hRW hR0); clear ho1; replace HC := Lib.hid HC))
        go_ret
        rw [HE.out]
        exact ⟨va, vc, rfl, HG.out.done H.out.size (flatC_len exC_len l), HC.out, HO.out⟩
    · have hd : decide (l.length < most) = false := decide_eq_false (by omega)
      have HE : Hid (R = (l, τ)) := by show _ = _; rw [← HL.out]; exact rowsL_end (fun q => hlt q.1)
      subst hv
      clear HL hlt
      go_wp2_with fail
      go_ret
      rw [HE.out]
      exact ⟨va, vc, rfl, HG.out.done H.out.size (flatC_len exC_len l), HC.out, HO.out⟩

end Go.Proofs.Ytccilgemfkdmkaa

namespace Go.Proofs.Ytccilgemfkdmkaa
open Go.RowKit Go.Maps
set_option linter.unusedVariables false
set_option linter.unusedSimpArgs false

theorem Try.zinfoC : (Try.prog.info? 59).map (fun i => (i.zero, i.size, i.bytes)) = some (some (.agg #[.string ⟨#[]⟩, .int .i64 0, .slice none 0 0]), 3, 48) := by kernel_rfl

set_option maxRecDepth 100000 in
set_option maxHeartbeats 4000000 in
theorem k_rowC {c : Cx} {n : Nat} {one : PS → Cn × PS} (HONE : ∀ (W0 W : World) (τ : PS), Car c W0 W τ → τ.ts.length < n → Calls Try.prog 102 #[.pointer (some ⟨c.R, 0, none⟩)] W (Tells c W0 W cnC (one τ)))
    (hdec : Dec one) {W0 W : World} {σ : PS} (h : Car c W0 W σ) (hlen : σ.ts.length < n) (t : By) (ht : t.length ≤ 1000000) {S : ByteArray} (hS : strB t = S) (most : Nat) (hm0 : 1 ≤ most) (hm : most ≤ 1000000) {R : List Cn × PS} (hR : rowsF (sS t) most one σ = R) :
    Calls Try.prog 101 #[.pointer (some ⟨c.R, 0, none⟩), .string S, .int .i64 (most : Int), .func (.func 102) #[.pointer (some ⟨c.R, 0, none⟩)] #[]] W fun e w' =>
      ∃ a cp, e = .returned (.slice a R.1.length cp) ∧ InC (New W0) w' (.s R.1.length 3 (R.1.flatMap cnC)) (.slice a R.1.length cp) ∧ Car c W0 w' R.2 ∧ Out (fun b => b = c.R) W w' := by
  obtain ⟨i0, hi0, hz0, hz1, hz2⟩ := info_parts Try.zinfoC
  have H := Lib.hid h
  have hR0 := h.lt
  have hRW : c.R < W.heap.size := h.rd.lt
  have HONE2 := Lib.hid HONE
  have HRR := Lib.hid hR
  have HSS := Lib.hid hS
  have HFT : Hid ((sS t).fit) := sortFit (s := sS t) (by show 5 ≤ 10; decide) ht
  have HDC := Lib.hid hdec
  have hlen6 := h.rd.len
  obtain ⟨x0, hx0⟩ : ∃ x0, one σ = x0 := ⟨_, rfl⟩
  have hx0l : x0.2.ts.length ≤ σ.ts.length := by rw [← hx0]; exact hdec σ
  have HX0 : Hid (∀ (W0 W : World), Car c W0 W σ → Calls Try.prog 102 #[.pointer (some ⟨c.R, 0, none⟩)] W (Tells c W0 W cnC x0)) := fun W0 W hc => hx0 ▸ HONE W0 W σ hc hlen
  have HR0 : Hid (rowsL (sS t) most one x0.2.ts.length [x0.1] x0.2 = R) := by show _ = _; rw [← hx0]; exact hR
  clear h HONE hR hS hdec hx0 ht
  go_enter Try.func101, Try.ntmps101
  go_wp2_with (go_at_call 102; refine (HX0.out _ _ H.out).mono ?_; rintro e w1 ⟨v1, rfl, hv1, hc1, ho1⟩; obtain ⟨z0, z1, hz9, _⟩ := hv1.cn; generalize x0.1.s = z2 at hz9; generalize x0.1.p = z3 at hz9; generalize x0.1.args.length = z4 at hz9; subst hz9; have HV1 := Lib.hid hv1; have HC1 := Lib.hid hc1; have HO1 := Lib.hid ho1; clear hv1 hc1 ho1)
  go_loopg [9] (x0.2.ts.length) (fun gn v wr => ∃ (l : List Cn) (τ : PS) (us : List Value) (f : Nat), Hid (Car c W0 wr τ) ∧ Hid (Out (fun b => b = c.R) W wr) ∧ Hid (GR W0 W.heap.size 59 3 wr v l.length (l.flatMap cnC) us) ∧ Hid (rowsL (sS t) most one f l τ = R) ∧ gn = τ.ts.length ∧ τ.ts.length ≤ f ∧ l.length + τ.ts.length ≤ 1000001 ∧ τ.ts.length < n)
  case atStart =>
    refine ⟨[x0.1], x0.2, [.string (strB z2), .int .i64 z3, .slice z0 z4 z1], x0.2.ts.length, HC1.out.alloc _, HO1.out.alloc _, ?_, HR0, rfl, Nat.le_refl _, by simp; omega, by omega⟩
    have := GR.one (base := W.heap.size) (e := 59) (k := 3) HO1.out.size (HV1.out.cells) rfl
    exact Lib.hid (by simpa [Value.cells] using this)
  case round =>
    obtain ⟨l, τ, us, f, HC, HO, HG, HL, rfl, hf, hl, hn⟩ := hrel
    clear HX0 HR0 HV1 HC1 HO1
    obtain ⟨va, vc, hv⟩ := HG.out.shape
    have HLO := Lib.hid HG.out.lt
    by_cases hlt : l.length < most
    · have hd : decide (l.length < most) = true := decide_eq_true (by omega)
      cases hs : τ.sees (sS t) with
      | true =>
        have HS := Lib.hid hs
        obtain ⟨f', hf1, hf2, hf3⟩ := rowsL_go hf hlt hs (sS_ne t) HDC.out
        have HL2 : Hid (rowsL (sS t) most one f' (l ++ [(one τ.tail).1]) (one τ.tail).2 = R) := by show _ = _; rw [← hf1]; exact HL.out
        have HSK : Hid (τ.skip (sS t) = (true, τ.tail)) := by show _ = _; unfold PS.skip; rw [if_pos hs]
        have htl : τ.tail.ts.length < n := by rw [tail_len]; omega
        have HX1 : Hid (∀ (W0 W : World), Car c W0 W τ.tail → Calls Try.prog 102 #[.pointer (some ⟨c.R, 0, none⟩)] W (Tells c W0 W cnC (one τ.tail))) := fun W0 W hc => HONE2.out W0 W τ.tail hc htl
        have hon : (one τ.tail).2.ts.length < n := by omega
        obtain ⟨L, hL⟩ : ∃ L, l.length = L := ⟨_, rfl⟩
        have HLL := Lib.hid hL
        rw [hL] at HG hl hd hv
        subst hv
        clear hL hs hf1 HL hlt
        go_wp2_with (first
          | (go_at_call 56; refine (k_sign HC.out _).mono ?_; clear HC; rintro e w2 ⟨rfl, HC, ho1⟩; replace HO := Lib.hid (HO.out.trans ho1); replace HG := Lib.hid (HG.out.out ho1 hRW hR0); clear ho1; replace HC := Lib.hid HC)
          | (go_at_call 116; refine (k_skip HC.out (sS t) HFT.out (sS_ne t) rfl HSS.out HSK.out).mono ?_; clear HC; rintro e w3 ⟨rfl, HC, ho1⟩; replace HO := Lib.hid (HO.out.trans ho1); replace HG := Lib.hid (HG.out.out ho1 hRW hR0); clear ho1; replace HC := Lib.hid HC)
          | (go_at_call 102; refine (HX1.out w3 _ ⟨HC.out.rd, Out.refl _ _, HC.out.rd.lt⟩).mono ?_; rintro e w4 ⟨v1, rfl, hv1, hc4, ho4⟩; obtain ⟨z0, z1, hz9, _⟩ := hv1.cn; generalize (one τ.tail).1.s = z2 at hz9; generalize (one τ.tail).1.p = z3 at hz9; generalize (one τ.tail).1.args.length = z4 at hz9; subst hz9; have HQ4 := Lib.hid HO.out.size; replace HC := Lib.hid (HC.out.next hc4.rd ho4); have HQ := Lib.hid HG.out.lt; replace HO := Lib.hid (HO.out.trans ho4); replace HG := Lib.hid (HG.out.out ho4 hRW hR0); have HV1 := Lib.hid hv1; clear hc4 ho4 hv1)
          | (at_builtin; refine wpList_append_lies _ rfl _ _ 54 rfl W.heap.size 59 i0 (.agg #[.string ⟨#[]⟩, .int .i64 0, .slice none 0 0]) 3 48 Try.underlying54 hi0 hz0 hz1 hz2 rfl (by decide) _ L us rfl (HG.out.1.alloc _) ⟨w4.heap.size, 0, none⟩ 1 1 [.string (strB z2), .int .i64 z3, .slice z0 z4 z1] rfl rfl (news_at (cs := [.string (strB z2), .int .i64 z3, .slice z0 z4 z1]) rfl) (by simp [Value.oneCell']) (by decide) ?c3 ?c4 ?c5 _ rfl ?_))
        case c3 => unfold maxLen; omega
        case c4 => omega
        case c5 => have := HO.out.size; simp; omega
        intro g cap w9 hown9 hgrow hat hlt9
        have hcar := (HC.out.alloc (.cells #[.string (strB z2), .int .i64 z3, .slice z0 z4 z1] 59)).grown H.out (HO.out.alloc _) hgrow fun q hq => (HLO.out q hq).1
        have HC9 := Lib.hid hcar.1
        have HO9 := Lib.hid hcar.2
        have HG9 := Lib.hid (HG.out.push (W1 := w3) (ds := cnC (one τ.tail).1) (vs := [.string (strB z2), .int .i64 z3, .slice z0 z4 z1]) (by simpa [Value.cells] using HV1.out.cells) (fun q hq => (HQ.out q hq).2) (Nat.le_trans H.out.size HQ4.out) hown9 hgrow hat)
        clear hcar hgrow hat hlt9 hown9 HC HO HG HV1 HQ
        go_wp2_with fail
        go_roundg (one τ.tail).2.ts.length
        case measure => exact hf3
        case rel => exact ⟨l ++ [(one τ.tail).1], (one τ.tail).2, _, f', HC9, HO9, by simpa [HLL.out, List.flatMap_append] using HG9, HL2, rfl, hf2, by simp [HLL.out]; omega, hon⟩
      | false =>
        have HSK : Hid (τ.skip (sS t) = (false, τ)) := by show _ = _; unfold PS.skip; rw [if_neg (by rw [hs]; decide)]
        have HE : Hid (R = (l, τ)) := by show _ = _; rw [← HL.out]; exact rowsL_end (by rw [hs]; simp)
        subst hv
        clear hs HL hlt
        go_wp2_with (first
          | (go_at_call 56; refine (k_sign HC.out _).mono ?_; clear HC; rintro e w2 ⟨rfl, HC, ho1⟩; replace HO := Lib.hid (HO.out.trans ho1); replace HG := Lib.hid (HG.out.out ho1 hRW hR0); clear ho1; replace HC := Lib.hid HC)
          | (go_at_call 116; refine (k_skip HC.out (sS t) HFT.out (sS_ne t) rfl HSS.out HSK.out).mono ?_; clear HC; rintro e w3 ⟨rfl, HC, ho1⟩; replace HO := Lib.hid (HO.out.trans ho1); replace HG := Lib.hid (HG.out.out ho1 hRW hR0); clear ho1; replace HC := Lib.hid HC))
        go_ret
        rw [HE.out]
        exact ⟨va, vc, rfl, HG.out.done H.out.size (flatC_len cnC_len l), HC.out, HO.out⟩
    · have hd : decide (l.length < most) = false := decide_eq_false (by omega)
      have HE : Hid (R = (l, τ)) := by show _ = _; rw [← HL.out]; exact rowsL_end (fun q => hlt q.1)
      subst hv
      clear HL hlt
      go_wp2_with fail
      go_ret
      rw [HE.out]
      exact ⟨va, vc, rfl, HG.out.done H.out.size (flatC_len cnC_len l), HC.out, HO.out⟩

end Go.Proofs.Ytccilgemfkdmkaa

namespace Go.Proofs.Ytccilgemfkdmkaa
open Go.RowKit Go.Maps
set_option linter.unusedVariables false
set_option linter.unusedSimpArgs false

theorem Try.zinfoA : (Try.prog.info? 129).map (fun i => (i.zero, i.size, i.bytes)) = some (some (.agg #[.int .i64 0, .string ⟨#[]⟩, .slice none 0 0, .int .i64 0, .int .i64 0, .string ⟨#[]⟩, .int .i64 0, .slice none 0 0, .slice none 0 0]), 9, 136) := by kernel_rfl

set_option maxRecDepth 100000 in
set_option maxHeartbeats 4000000 in
theorem k_rowA {c : Cx} {n : Nat} {one : PS → Al × PS} (HONE : ∀ (W0 W : World) (τ : PS), Car c W0 W τ → τ.ts.length < n → Calls Try.prog 130 #[.pointer (some ⟨c.R, 0, none⟩)] W (Tells c W0 W alC (one τ)))
    (hdec : Dec one) {W0 W : World} {σ : PS} (h : Car c W0 W σ) (hlen : σ.ts.length < n) (t : By) (ht : t.length ≤ 1000000) {S : ByteArray} (hS : strB t = S) (most : Nat) (hm0 : 1 ≤ most) (hm : most ≤ 1000000) {R : List Al × PS} (hR : rowsF (sS t) most one σ = R) :
    Calls Try.prog 129 #[.pointer (some ⟨c.R, 0, none⟩), .string S, .int .i64 (most : Int), .func (.func 130) #[.pointer (some ⟨c.R, 0, none⟩)] #[]] W fun e w' =>
      ∃ a cp, e = .returned (.slice a R.1.length cp) ∧ InC (New W0) w' (.s R.1.length 9 (R.1.flatMap alC)) (.slice a R.1.length cp) ∧ Car c W0 w' R.2 ∧ Out (fun b => b = c.R) W w' := by
  obtain ⟨i0, hi0, hz0, hz1, hz2⟩ := info_parts Try.zinfoA
  have H := Lib.hid h
  have hR0 := h.lt
  have hRW : c.R < W.heap.size := h.rd.lt
  have HONE2 := Lib.hid HONE
  have HRR := Lib.hid hR
  have HSS := Lib.hid hS
  have HFT : Hid ((sS t).fit) := sortFit (s := sS t) (by show 5 ≤ 10; decide) ht
  have HDC := Lib.hid hdec
  have hlen6 := h.rd.len
  obtain ⟨x0, hx0⟩ : ∃ x0, one σ = x0 := ⟨_, rfl⟩
  have hx0l : x0.2.ts.length ≤ σ.ts.length := by rw [← hx0]; exact hdec σ
  have HX0 : Hid (∀ (W0 W : World), Car c W0 W σ → Calls Try.prog 130 #[.pointer (some ⟨c.R, 0, none⟩)] W (Tells c W0 W alC x0)) := fun W0 W hc => hx0 ▸ HONE W0 W σ hc hlen
  have HR0 : Hid (rowsL (sS t) most one x0.2.ts.length [x0.1] x0.2 = R) := by show _ = _; rw [← hx0]; exact hR
  clear h HONE hR hS hdec hx0 ht
  go_enter Try.func129, Try.ntmps129
  go_wp2_with (go_at_call 130; refine (HX0.out _ _ H.out).mono ?_; rintro e w1 ⟨v1, rfl, hv1, hc1, ho1⟩; obtain ⟨z0, z1, z2, z3, z4, z5, z6, z7, z8, y0, y1, y2, y3, y4, y5, hz9⟩ := hv1.al; subst hz9; have HV1 := Lib.hid hv1; have HC1 := Lib.hid hc1; have HO1 := Lib.hid ho1; clear hv1 hc1 ho1)
  go_loopg [9] (x0.2.ts.length) (fun gn v wr => ∃ (l : List Al) (τ : PS) (us : List Value) (f : Nat), Hid (Car c W0 wr τ) ∧ Hid (Out (fun b => b = c.R) W wr) ∧ Hid (GR W0 W.heap.size 129 9 wr v l.length (l.flatMap alC) us) ∧ Hid (rowsL (sS t) most one f l τ = R) ∧ gn = τ.ts.length ∧ τ.ts.length ≤ f ∧ l.length + τ.ts.length ≤ 1000001 ∧ τ.ts.length < n)
  case atStart =>
    refine ⟨[x0.1], x0.2, [.int .i64 z0, .string (strB z1), .slice z2 z3 z4, .int .i64 z5, .int .i64 z6, .string (strB z8), .int .i64 z7, .slice y0 y2 y4, .slice y1 y3 y5], x0.2.ts.length, HC1.out.alloc _, HO1.out.alloc _, ?_, HR0, rfl, Nat.le_refl _, by simp; omega, by omega⟩
    have := GR.one (base := W.heap.size) (e := 129) (k := 9) HO1.out.size (HV1.out.cells) rfl
    exact Lib.hid (by simpa [Value.cells] using this)
  case round =>
    obtain ⟨l, τ, us, f, HC, HO, HG, HL, rfl, hf, hl, hn⟩ := hrel
    clear HX0 HR0 HV1 HC1 HO1
    obtain ⟨va, vc, hv⟩ := HG.out.shape
    have HLO := Lib.hid HG.out.lt
    by_cases hlt : l.length < most
    · have hd : decide (l.length < most) = true := decide_eq_true (by omega)
      cases hs : τ.sees (sS t) with
      | true =>
        have HS := Lib.hid hs
        obtain ⟨f', hf1, hf2, hf3⟩ := rowsL_go hf hlt hs (sS_ne t) HDC.out
        have HL2 : Hid (rowsL (sS t) most one f' (l ++ [(one τ.tail).1]) (one τ.tail).2 = R) := by show _ = _; rw [← hf1]; exact HL.out
        have HSK : Hid (τ.skip (sS t) = (true, τ.tail)) := by show _ = _; unfold PS.skip; rw [if_pos hs]
        have htl : τ.tail.ts.length < n := by rw [tail_len]; omega
        have HX1 : Hid (∀ (W0 W : World), Car c W0 W τ.tail → Calls Try.prog 130 #[.pointer (some ⟨c.R, 0, none⟩)] W (Tells c W0 W alC (one τ.tail))) := fun W0 W hc => HONE2.out W0 W τ.tail hc htl
        have hon : (one τ.tail).2.ts.length < n := by omega
        obtain ⟨L, hL⟩ : ∃ L, l.length = L := ⟨_, rfl⟩
        have HLL := Lib.hid hL
        rw [hL] at HG hl hd hv
        subst hv
        clear hL hs hf1 HL hlt
        go_wp2_with (first
          | (go_at_call 56; refine (k_sign HC.out _).mono ?_; clear HC; rintro e w2 ⟨rfl, HC, ho1⟩; replace HO := Lib.hid (HO.out.trans ho1); replace HG := Lib.hid (HG.out.out ho1 hRW hR0); clear ho1; replace HC := Lib.hid HC)
          | (go_at_call 116; refine (k_skip HC.out (sS t) HFT.out (sS_ne t) rfl HSS.out HSK.out).mono ?_; clear HC; rintro e w3 ⟨rfl, HC, ho1⟩; replace HO := Lib.hid (HO.out.trans ho1); replace HG := Lib.hid (HG.out.out ho1 hRW hR0); clear ho1; replace HC := Lib.hid HC)
          | (go_at_call 130; refine (HX1.out w3 _ ⟨HC.out.rd, Out.refl _ _, HC.out.rd.lt⟩).mono ?_; rintro e w4 ⟨v1, rfl, hv1, hc4, ho4⟩; obtain ⟨z0, z1, z2, z3, z4, z5, z6, z7, z8, y0, y1, y2, y3, y4, y5, hz9⟩ := hv1.al; subst hz9; have HQ4 := Lib.hid HO.out.size; replace HC := Lib.hid (HC.out.next hc4.rd ho4); have HQ := Lib.hid HG.out.lt; replace HO := Lib.hid (HO.out.trans ho4); replace HG := Lib.hid (HG.out.out ho4 hRW hR0); have HV1 := Lib.hid hv1; clear hc4 ho4 hv1)
          | (at_builtin; refine wpList_append_lies _ rfl _ _ 41 rfl W.heap.size 129 i0 (.agg #[.int .i64 0, .string ⟨#[]⟩, .slice none 0 0, .int .i64 0, .int .i64 0, .string ⟨#[]⟩, .int .i64 0, .slice none 0 0, .slice none 0 0]) 9 136 Try.underlying41 hi0 hz0 hz1 hz2 rfl (by decide) _ L us rfl (HG.out.1.alloc _) ⟨w4.heap.size, 0, none⟩ 1 1 [.int .i64 z0, .string (strB z1), .slice z2 z3 z4, .int .i64 z5, .int .i64 z6, .string (strB z8), .int .i64 z7, .slice y0 y2 y4, .slice y1 y3 y5] rfl rfl (news_at (cs := [.int .i64 z0, .string (strB z1), .slice z2 z3 z4, .int .i64 z5, .int .i64 z6, .string (strB z8), .int .i64 z7, .slice y0 y2 y4, .slice y1 y3 y5]) rfl) (by simp [Value.oneCell']) (by decide) ?c3 ?c4 ?c5 _ rfl ?_))
        case c3 => unfold maxLen; omega
        case c4 => omega
        case c5 => have := HO.out.size; simp; omega
        intro g cap w9 hown9 hgrow hat hlt9
        have hcar := (HC.out.alloc (.cells #[.int .i64 z0, .string (strB z1), .slice z2 z3 z4, .int .i64 z5, .int .i64 z6, .string (strB z8), .int .i64 z7, .slice y0 y2 y4, .slice y1 y3 y5] 129)).grown H.out (HO.out.alloc _) hgrow fun q hq => (HLO.out q hq).1
        have HC9 := Lib.hid hcar.1
        have HO9 := Lib.hid hcar.2
        have HG9 := Lib.hid (HG.out.push (W1 := w3) (ds := alC (one τ.tail).1) (vs := [.int .i64 z0, .string (strB z1), .slice z2 z3 z4, .int .i64 z5, .int .i64 z6, .string (strB z8), .int .i64 z7, .slice y0 y2 y4, .slice y1 y3 y5]) (by simpa [Value.cells] using HV1.out.cells) (fun q hq => (HQ.out q hq).2) (Nat.le_trans H.out.size HQ4.out) hown9 hgrow hat)
        clear hcar hgrow hat hlt9 hown9 HC HO HG HV1 HQ
        go_wp2_with fail
        go_roundg (one τ.tail).2.ts.length
        case measure => exact hf3
        case rel => exact ⟨l ++ [(one τ.tail).1], (one τ.tail).2, _, f', HC9, HO9, by simpa [HLL.out, List.flatMap_append] using HG9, HL2, rfl, hf2, by simp [HLL.out]; omega, hon⟩
      | false =>
        have HSK : Hid (τ.skip (sS t) = (false, τ)) := by show _ = _; unfold PS.skip; rw [if_neg (by rw [hs]; decide)]
        have HE : Hid (R = (l, τ)) := by show _ = _; rw [← HL.out]; exact rowsL_end (by rw [hs]; simp)
        subst hv
        clear hs HL hlt
        go_wp2_with (first
          | (go_at_call 56; refine (k_sign HC.out _).mono ?_; clear HC; rintro e w2 ⟨rfl, HC, ho1⟩; replace HO := Lib.hid (HO.out.trans ho1); replace HG := Lib.hid (HG.out.out ho1 hRW hR0); clear ho1; replace HC := Lib.hid HC)
          | (go_at_call 116; refine (k_skip HC.out (sS t) HFT.out (sS_ne t) rfl HSS.out HSK.out).mono ?_; clear HC; rintro e w3 ⟨rfl, HC, ho1⟩; replace HO := Lib.hid (HO.out.trans ho1); replace HG := Lib.hid (HG.out.out ho1 hRW hR0); clear ho1; replace HC := Lib.hid HC))
        go_ret
        rw [HE.out]
        exact ⟨va, vc, rfl, HG.out.done H.out.size (flatC_len alC_len l), HC.out, HO.out⟩
    · have hd : decide (l.length < most) = false := decide_eq_false (by omega)
      have HE : Hid (R = (l, τ)) := by show _ = _; rw [← HL.out]; exact rowsL_end (fun q => hlt q.1)
      subst hv
      clear HL hlt
      go_wp2_with fail
      go_ret
      rw [HE.out]
      exact ⟨va, vc, rfl, HG.out.done H.out.size (flatC_len alC_len l), HC.out, HO.out⟩

end Go.Proofs.Ytccilgemfkdmkaa

namespace Go.Proofs.Ytccilgemfkdmkaa
open Go.RowKit Go.Maps
set_option linter.unusedVariables false
set_option linter.unusedSimpArgs false

theorem Out.drew2 {R : Nat} {w w' : World} (h : Out (fun b => b = R) w.drew w') : Out (fun b => b = R) w w' := ⟨h.os, h.tape, h.output, h.size, h.block⟩
/-- All but one block, and new ones, is as it was. -/
structure Nb (B : Nat) (w w' : World) : Prop where
  os : w'.os = w.os
  tape : w'.tape = w.tape
  output : w'.output = w.output
  size : w.heap.size ≤ w'.heap.size
  block : ∀ k, k < w.heap.size → k ≠ B → w'.heap[k]? = w.heap[k]?
theorem Nb.refl (B : Nat) (w : World) : Nb B w w := ⟨rfl, rfl, rfl, Nat.le_refl _, fun _ _ _ => rfl⟩
theorem Nb.set {B : Nat} {w w' : World} (h : Nb B w w') (o : Nat) (v : Value) : Nb B w (w'.setCell ⟨B, o, none⟩ v) :=
  ⟨h.os, h.tape, h.output, by simpa using h.size, fun k hk hn => (Below.heap_setCell w' ⟨B, o, none⟩ v k hn).trans (h.block k hk hn)⟩
theorem Nb.alloc {B : Nat} {w w' : World} (h : Nb B w w') (o : Obj) : Nb B w (w'.alloc o) :=
  ⟨h.os, h.tape, h.output, Nat.le_trans h.size (by simp), fun k hk hn => (Below.heap_alloc w' o k (Nat.lt_of_lt_of_le hk h.size)).trans (h.block k hk hn)⟩
theorem Nb.drew {B : Nat} {w w' : World} (h : Nb B w w') : Nb B w w'.drew := ⟨h.os, h.tape, h.output, h.size, h.block⟩
theorem Nb.both {B : Nat} {w w' : World} (h : Nb B w w') (hs : w'.heap.size = w.heap.size) (o : Obj) : Nb B (w.alloc o) (w'.alloc o) := by
  refine ⟨h.os, h.tape, h.output, by simp [hs], fun k hk hn => ?_⟩
  simp at hk
  by_cases e : k = w.heap.size
  · subst e
    rw [heap_alloc_new w o, ← hs, heap_alloc_new w' o]
  · exact (Below.heap_alloc w' o k (by omega)).trans ((h.block k (by omega) hn).trans (Below.heap_alloc w o k (by omega)).symm)
theorem fin {c : Cx} {W0 W w w' : World} {σ τ : PS} {o : Obj} (h : Car c W0 W σ) (hc : Car c (W.alloc o) w τ) (hn : Nb W.heap.size w w') : Car c W0 w' τ ∧ Out (fun b => b = c.R) W w' := by
  have hsz : (W.alloc o).heap.size = W.heap.size + 1 := by simp
  have h1 := hc.out.size
  have ho : Out (fun b => b = c.R) W w' := ⟨hn.os.trans hc.out.os, hn.tape.trans hc.out.tape, hn.output.trans hc.out.output, by have := hn.size; omega, fun k hk hne =>
    (hn.block k (by omega) (by omega)).trans ((hc.out.block k (by omega) hne).trans (Below.heap_alloc W o k hk))⟩
  exact ⟨h.next (h.rd.keep hc.rd fun k hk => hn.block k (by omega) (by omega)) ho, ho⟩
theorem finC {W0 W w w' : World} {o : Obj} {cl : Cl} {v : Value} (hW : W0.heap.size ≤ W.heap.size) (h : InC (New (W.alloc o)) w cl v) (hn : Nb W.heap.size w w') : InC (New W0) w' cl v :=
  h.agree (fun b h1 h2 => by unfold New at *; simp at h1; exact ⟨by omega, hn.block b h2 (by omega)⟩) hn.size
theorem finV {W0 W w w' : World} {o : Obj} {cs : List Cl} {v : Value} (hW : W0.heap.size ≤ W.heap.size) (h : IsV (New (W.alloc o)) w cs v) (hn : Nb W.heap.size w w') : IsV (New W0) w' cs v :=
  h.agree (fun b h1 h2 => by unfold New at *; simp at h1; exact ⟨by omega, hn.block b h2 (by omega)⟩) hn.size
/-- What a call ends with, its result laid in its own block. -/
theorem tells {α : Type} {c : Cx} {W0 W w w' : World} {σ τ : PS} {o : Obj} {cs : α → List Cl} {r : α × PS} {v : Value} (h : Car c W0 W σ) (hc : Car c (W.alloc o) w τ) (hn : Nb W.heap.size w w') (hr : r.2 = τ) (hv : IsV (New (W.alloc o)) w (cs r.1) v) : Tells c W0 W cs r (.returned v) w' :=
  ⟨v, rfl, finV h.size hv hn, hr ▸ (fin h hc hn).1, (fin h hc hn).2⟩
/-- Begin behind the result's block. -/
theorem Car.begin {c : Cx} {W0 W : World} {σ : PS} (h : Car c W0 W σ) (o : Obj) : Car c (W.alloc o) (W.alloc o) σ := Car.start (h.rd.alloc o)
theorem Car.res {c : Cx} {W w : World} {τ : PS} {t : TypeId} {cs : List Value} (hc : Car c (W.alloc (.cells cs.toArray t)) w τ) (hR : c.R < W.heap.size) : Box w W.heap.size t cs := hc.box (Box.new W t cs) (by omega)
theorem tail_take {En : Nat} {σ : PS} {s : Srt} (h : σ.sees s = true) : σ.take En s = (σ.head, σ.tail) := by unfold PS.take; rw [if_pos h]
theorem zero_fit : Tk.zero.fit := ⟨by decide, by decide, by decide, by decide⟩
theorem take_fit {c : Cx} {w : World} {σ : PS} (h : RD c w σ) (s : Srt) : (σ.take c.En s).1.fit := by
  unfold PS.take
  split
  · unfold PS.head
    cases e : σ.ts with
    | nil => exact zero_fit
    | cons t r => exact h.fit t (by rw [e]; exact List.mem_cons_self ..)
  · exact zero_fit

end Go.Proofs.Ytccilgemfkdmkaa

namespace Go.Proofs.Ytccilgemfkdmkaa
open Go.RowKit Go.Maps
set_option linter.unusedVariables false
set_option linter.unusedSimpArgs false

set_option maxRecDepth 100000 in
set_option maxHeartbeats 4000000 in
theorem k_bracketT {c : Cx} {n : Nat} {one : PS → Ty × PS} (HONE : ∀ (W0 W : World) (τ : PS), Car c W0 W τ → τ.ts.length < n → Calls Try.prog 138 #[.pointer (some ⟨c.R, 0, none⟩)] W (Tells c W0 W tyC (one τ)))
    (hdec : Dec one) {W0 W : World} {σ : PS} (h : Car c W0 W σ) (hlen : σ.ts.length ≤ n) (hsee : σ.sees (sS tLpar) = true) {R : (List Ty × Nat) × PS} (hR : bracketF c.En one σ = R) :
    Calls Try.prog 137 #[.pointer (some ⟨c.R, 0, none⟩), .func (.func 138) #[.pointer (some ⟨c.R, 0, none⟩)] #[]] W fun e w' =>
      ∃ a cp, e = .returned (.tuple #[.slice a R.1.1.length cp, .int .i64 (R.1.2 : Int)]) ∧ InC (New W0) w' (.s R.1.1.length 4 (R.1.1.flatMap tyC)) (.slice a R.1.1.length cp) ∧ Car c W0 w' R.2 ∧ Out (fun b => b = c.R) W w' := by
  have hfp := fld_p
  have hR0 := h.lt
  obtain ⟨A, hA⟩ : ∃ A, σ.take c.En (sS tLpar) = A := ⟨_, rfl⟩
  have hAl : A.2.ts.length < n := by rw [← hA]; exact Nat.lt_of_lt_of_le (take_lt hsee (sS_ne _)) hlen
  obtain ⟨B, hB⟩ : ∃ B, rowsF (sS tComma) maxTup one A.2 = B := ⟨_, rfl⟩
  obtain ⟨C, hC⟩ : ∃ C, B.2.take c.En (sS tRpar) = C := ⟨_, rfl⟩
  have HR : Hid (R = ((B.1, A.1.p), C.2)) := by show _ = _; rw [← hR, ← hC, ← hB, ← hA]; rfl
  rw [HR.out]
  dsimp only
  have HA := Lib.hid hA
  have HB := Lib.hid hB
  have HC := Lib.hid hC
  have HONE2 := Lib.hid HONE
  have HD := Lib.hid hdec
  have H := Lib.hid h
  have HO : Hid (Out (fun b => b = c.R) W W) := Out.refl _ _
  clear hR HR HONE hdec hA hB hC h hlen hsee
  go_enter Try.func137, Try.ntmps137
  go_wp2_with (first
    | (go_at_call 56; refine (k_sign H.out _).mono ?_; clear H; rintro e w2 ⟨rfl, H, ho1⟩; replace HO := Lib.hid (HO.out.trans ho1); (try (replace HI := Lib.hid (stayC ho1 hR0 HI.out))); clear ho1; replace H := Lib.hid H)
    | (go_at_call 59; refine (k_take H.out (sS tLpar) (sortFit (by decide) (by decide)) (sS_ne _) rfl rfl HA.out).mono ?_; clear HA; clear H; rintro e w3 ⟨rfl, H, ho1⟩; replace HO := Lib.hid (HO.out.trans ho1); clear ho1; replace H := Lib.hid H)
    | (go_at_call 140; refine (k_rowT (most := maxTup) HONE2.out HD.out H.out hAl tComma (by decide) rfl (by decide) (by decide) HB.out).mono ?_; clear HB HONE2; clear H; rintro e w4 ⟨a4, cp4, rfl, HI, H, ho1⟩; replace HO := Lib.hid (HO.out.trans ho1); clear ho1; replace HI := Lib.hid HI; replace H := Lib.hid H)
    | (go_at_call 59; refine (k_take H.out (sS tRpar) (sortFit (by decide) (by decide)) (sS_ne _) rfl rfl HC.out).mono ?_; clear HC; clear H; rintro e w3 ⟨rfl, H, ho1⟩; replace HO := Lib.hid (HO.out.trans ho1); replace HI := Lib.hid (stayC ho1 hR0 HI.out); clear ho1; replace H := Lib.hid H))
  refine bodyPost_ret (v := .tuple #[.slice a4 B.1.length cp4, .int .i64 (A.1.p : Int)]) (by simp only [results, Try.results137]; go_simp <;> rfl) rfl ?_
  exact ⟨a4, cp4, rfl, HI.out, H.out, HO.out⟩

end Go.Proofs.Ytccilgemfkdmkaa

namespace Go.Proofs.Ytccilgemfkdmkaa
open Go.RowKit Go.Maps
set_option linter.unusedVariables false
set_option linter.unusedSimpArgs false

set_option maxRecDepth 100000 in
set_option maxHeartbeats 4000000 in
theorem k_bracketE {c : Cx} {n : Nat} {one : PS → Ex × PS} (HONE : ∀ (W0 W : World) (τ : PS), Car c W0 W τ → τ.ts.length < n → Calls Try.prog 105 #[.pointer (some ⟨c.R, 0, none⟩)] W (Tells c W0 W exC (one τ)))
    (hdec : Dec one) {W0 W : World} {σ : PS} (h : Car c W0 W σ) (hlen : σ.ts.length ≤ n) (hsee : σ.sees (sS tLpar) = true) {R : (List Ex × Nat) × PS} (hR : bracketF c.En one σ = R) :
    Calls Try.prog 139 #[.pointer (some ⟨c.R, 0, none⟩), .func (.func 105) #[.pointer (some ⟨c.R, 0, none⟩)] #[]] W fun e w' =>
      ∃ a cp, e = .returned (.tuple #[.slice a R.1.1.length cp, .int .i64 (R.1.2 : Int)]) ∧ InC (New W0) w' (.s R.1.1.length 6 (R.1.1.flatMap exC)) (.slice a R.1.1.length cp) ∧ Car c W0 w' R.2 ∧ Out (fun b => b = c.R) W w' := by
  have hfp := fld_p
  have hR0 := h.lt
  obtain ⟨A, hA⟩ : ∃ A, σ.take c.En (sS tLpar) = A := ⟨_, rfl⟩
  have hAl : A.2.ts.length < n := by rw [← hA]; exact Nat.lt_of_lt_of_le (take_lt hsee (sS_ne _)) hlen
  obtain ⟨B, hB⟩ : ∃ B, rowsF (sS tComma) maxTup one A.2 = B := ⟨_, rfl⟩
  obtain ⟨C, hC⟩ : ∃ C, B.2.take c.En (sS tRpar) = C := ⟨_, rfl⟩
  have HR : Hid (R = ((B.1, A.1.p), C.2)) := by show _ = _; rw [← hR, ← hC, ← hB, ← hA]; rfl
  rw [HR.out]
  dsimp only
  have HA := Lib.hid hA
  have HB := Lib.hid hB
  have HC := Lib.hid hC
  have HONE2 := Lib.hid HONE
  have HD := Lib.hid hdec
  have H := Lib.hid h
  have HO : Hid (Out (fun b => b = c.R) W W) := Out.refl _ _
  clear hR HR HONE hdec hA hB hC h hlen hsee
  go_enter Try.func139, Try.ntmps139
  go_wp2_with (first
    | (go_at_call 56; refine (k_sign H.out _).mono ?_; clear H; rintro e w2 ⟨rfl, H, ho1⟩; replace HO := Lib.hid (HO.out.trans ho1); (try (replace HI := Lib.hid (stayC ho1 hR0 HI.out))); clear ho1; replace H := Lib.hid H)
    | (go_at_call 59; refine (k_take H.out (sS tLpar) (sortFit (by decide) (by decide)) (sS_ne _) rfl rfl HA.out).mono ?_; clear HA; clear H; rintro e w3 ⟨rfl, H, ho1⟩; replace HO := Lib.hid (HO.out.trans ho1); clear ho1; replace H := Lib.hid H)
    | (go_at_call 142; refine (k_rowE (most := maxTup) HONE2.out HD.out H.out hAl tComma (by decide) rfl (by decide) (by decide) HB.out).mono ?_; clear HB HONE2; clear H; rintro e w4 ⟨a4, cp4, rfl, HI, H, ho1⟩; replace HO := Lib.hid (HO.out.trans ho1); clear ho1; replace HI := Lib.hid HI; replace H := Lib.hid H)
    | (go_at_call 59; refine (k_take H.out (sS tRpar) (sortFit (by decide) (by decide)) (sS_ne _) rfl rfl HC.out).mono ?_; clear HC; clear H; rintro e w3 ⟨rfl, H, ho1⟩; replace HO := Lib.hid (HO.out.trans ho1); replace HI := Lib.hid (stayC ho1 hR0 HI.out); clear ho1; replace H := Lib.hid H))
  refine bodyPost_ret (v := .tuple #[.slice a4 B.1.length cp4, .int .i64 (A.1.p : Int)]) (by simp only [results, Try.results139]; go_simp <;> rfl) rfl ?_
  exact ⟨a4, cp4, rfl, HI.out, H.out, HO.out⟩

end Go.Proofs.Ytccilgemfkdmkaa

namespace Go.Proofs.Ytccilgemfkdmkaa
open Go.RowKit Go.Maps
set_option linter.unusedVariables false
set_option linter.unusedSimpArgs false

theorem Try.zstrKeyed : Keyed Try.prog 9 := string_keyed Try.underlying9
theorem str_key {s : By} (h : s.length ≤ 1000000) : ∃ l, keyOf Try.prog 9 (.string (strB s)) = some l :=
  ⟨_, Go.WideMaps.keyOf_string_mk Try.underlying9 (by rw [strB_size]; unfold maxLen; omega)⟩
/-- What a look for a variable's place tells. -/
theorem var_look {c : Cx} {w : World} {σ : PS} (h : RD c w σ) {s : By} (hs : s.length ≤ 1000000) :
    Sem.run Try.prog (Instr.lookup 75 c.vv (.string (strB s)) true) w = .ok (.tuple #[.int .i64 (((placeL c.vs s).getD 0 : Nat) : Int), .bool (placeL c.vs s).isSome]) w := by
  obtain ⟨l, hl⟩ := str_key hs
  rcases h.vars with ⟨e, e2⟩ | ⟨M, n, D, e, _, hm, hv⟩
  · rw [e, e2]
    kernel_rfl
  · rw [e]
    obtain ⟨h1, h2⟩ := hv.2 s l hs hl
    exact look_at Try.zstrKeyed Try.underlying75 Try.underlying3 (Try.zzeroInt _) hm hl h1 h2

set_option maxRecDepth 100000 in
set_option maxHeartbeats 4000000 in
theorem k_variable {c : Cx} {W0 W : World} {σ : PS} (h : Car c W0 W σ) {R : Ty × PS} (hR : variableF c.En c.vs σ = R) :
    Calls Try.prog 133 #[.pointer (some ⟨c.R, 0, none⟩)] W (Tells c W0 W tyC R) := by
  have hfs := fld_s
  have hR0 := h.rd.lt
  obtain ⟨A, hA⟩ : ∃ A, σ.take c.En sName = A := ⟨_, rfl⟩
  have hfit := take_fit h.rd sName
  rw [hA] at hfit
  have H0 := Lib.hid h
  have H1 := Lib.hid (h.begin (.cells #[.int .i64 0, .int .i64 0, .string ⟨#[]⟩, .slice none 0 0] 63))
  have HA := Lib.hid hA
  have HF := Lib.hid hfit.2.2.1
  have HR : Hid (R = (varTy c.vs A.1.s, A.2)) := by show _ = _; rw [← hR, ← hA]; rfl
  clear h hA hfit hR
  cases ho : placeL c.vs A.1.s with
  | none =>
    have HO := Lib.hid ho
    clear ho
    go_enter Try.func133, Try.ntmps133
    go_wp2_with (first
      | (go_at_call 54; refine (k_some H1.out _).mono ?_; clear H1; rintro e w1 ⟨rfl, H1, ho1⟩; clear ho1; replace H1 := Lib.hid H1)
      | (go_at_call 59; refine (k_take H1.out sName (sortFit (by decide) (by decide)) (by decide) rfl rfl HA.out).mono ?_; clear H1; rintro e w2 ⟨rfl, H1, ho1⟩; clear ho1; replace H1 := Lib.hid H1; obtain ⟨ra, rcp, hrb, _, _⟩ := H1.out.rd.box; obtain ⟨_, _, _, _, _, _⟩ := six_cells hrb; clear hrb; have hlook := var_look H1.out.rd HF.out; rw [HO.out] at hlook; have hb4 := H1.out.res hR0; obtain ⟨_, _, _, _⟩ := four_cells hb4; obtain ⟨_, _, _, _⟩ := four_frozen hb4; clear hb4))
    refine bodyPost_ret (v := .agg #[.int .i64 1, .int .i64 (-1), .string (strB A.1.s), .slice none 0 0]) (by simp only [results, Try.results133]; go_simp <;> rfl) rfl ?_
    refine tells H0.out H1.out (by repeat (first | with_reducible exact Nb.refl _ _ | with_reducible refine Nb.set ?_ _ _)) (by rw [HR.out]) ?_
    rw [HR.out]
    unfold varTy
    rw [HO.out]
    exact IsV.of_ty (.e _ _ _)
  | some i =>
    have HO := Lib.hid ho
    clear ho
    go_enter Try.func133, Try.ntmps133
    go_wp2_with (first
      | (go_at_call 54; refine (k_some H1.out _).mono ?_; clear H1; rintro e w1 ⟨rfl, H1, ho1⟩; clear ho1; replace H1 := Lib.hid H1)
      | (go_at_call 59; refine (k_take H1.out sName (sortFit (by decide) (by decide)) (by decide) rfl rfl HA.out).mono ?_; clear H1; rintro e w2 ⟨rfl, H1, ho1⟩; clear ho1; replace H1 := Lib.hid H1; obtain ⟨ra, rcp, hrb, _, _⟩ := H1.out.rd.box; obtain ⟨_, _, _, _, _, _⟩ := six_cells hrb; clear hrb; have hlook := var_look H1.out.rd HF.out; rw [HO.out] at hlook; have hb4 := H1.out.res hR0; obtain ⟨_, _, _, _⟩ := four_cells hb4; obtain ⟨_, _, _, _⟩ := four_frozen hb4; clear hb4))
    refine bodyPost_ret (v := .agg #[.int .i64 1, .int .i64 (i : Int), .string ⟨#[]⟩, .slice none 0 0]) (by simp only [results, Try.results133]; go_simp <;> rfl) rfl ?_
    refine tells H0.out H1.out (by repeat (first | with_reducible exact Nb.refl _ _ | with_reducible refine Nb.set ?_ _ _)) (by rw [HR.out]) ?_
    rw [HR.out]
    unfold varTy
    rw [HO.out]
    exact IsV.of_ty (s := []) (.e _ _ _)

end Go.Proofs.Ytccilgemfkdmkaa
