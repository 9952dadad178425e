import Derived.Test.YtbfagiofhakjnaaDoorMA17
namespace Go.Proofs.YtbfagiofhakjnaaDoor
open Go.RowKit
theorem cut_split {c : UInt8} : ∀ {s a b : Tx}, cutT [c] s = some (a, b) → s = a ++ c :: b
  | [], a, b, h => by cases h
  | x :: r, a, b, h => by
    rw [cutT] at h
    split at h
    · next hc =>
      have e : x = c := by simpa using hc
      simp only [Option.some.injEq, Prod.mk.injEq] at h
      obtain ⟨rfl, rfl⟩ := h
      rw [e]; rfl
    · cases hr : cutT [c] r with
      | none => rw [hr] at h; cases h
      | some p =>
        obtain ⟨a', b'⟩ := p
        rw [hr] at h
        simp only [Option.map_some, Option.some.injEq, Prod.mk.injEq] at h
        obtain ⟨rfl, rfl⟩ := h
        rw [cut_split hr]; rfl
theorem fnd_none {s : Tx} {c : UInt8} (h : cutT [c] s = none) : fndI s c = -1 := by unfold fndI; rw [h]
theorem fnd_some {s a b : Tx} {c : UInt8} (h : cutT [c] s = some (a, b)) : fndI s c = (a.length : Int) := by unfold fndI; rw [h]
theorem ext_fst (a : Tx) (c : UInt8) (b : Tx) : (⟨(a ++ c :: b).toArray⟩ : ByteArray).extract 0 a.length = ⟨a.toArray⟩ := by rw [ext_mk]; simp
theorem ext_snd (a : Tx) (c : UInt8) (b : Tx) (n : Nat) (hn : n = (a ++ c :: b).length) : (⟨(a ++ c :: b).toArray⟩ : ByteArray).extract (a.length + 1) n = ⟨b.toArray⟩ := by
  rw [ext_mk, hn, List.take_length, ← List.drop_drop, List.drop_left]
  rfl
theorem trim_cons {c : UInt8} {r : Tx} (h : ([32, 9] : Tx).contains c = true) : trimT (c :: r) = trimT r := by
  unfold trimT Lib.trimS Lib.trimLeftS Lib.trimRightS
  rw [List.reverse_cons, List.dropWhile_append]
  split
  · next he =>
    have e : List.dropWhile (fun x => ([32, 9] : Tx).contains x) r.reverse = [] := by simpa using he
    rw [e, List.dropWhile_cons_of_pos h]
    rfl
  · rw [List.reverse_append, List.reverse_singleton, List.singleton_append, List.dropWhile_cons_of_pos h]
/-- the name and the rest of a statement, where the first blank stands at i or nowhere -/
theorem st_parts {u : Tx} {i : Nat} (hi : i ≤ u.length) (h : ∀ j (hj : j < u.length), j < i → ([32, 9] : Tx).contains u[j] = false) (he : ∀ (hj : i < u.length), ([32, 9] : Tx).contains u[i] = true) : ((cutT [32, 9] u).getD (u, [])).1 = u.take i ∧ trimT ((cutT [32, 9] u).getD (u, [])).2 = trimT (u.drop i) := by
  by_cases hlt : i < u.length
  · rw [cutd_at hlt h (he hlt)]
    refine ⟨rfl, ?_⟩
    rw [List.drop_eq_getElem_cons hlt, trim_cons (he hlt)]
    rfl
  · have e : i = u.length := by omega
    subst e
    rw [cut_no fun j hj => h j hj hj]
    refine ⟨by simp, ?_⟩
    rw [List.drop_length]
    rfl
/-- a line of the document's lies in a block -/
def DlA (w : World) (g : Nat) (d : Dl) (fo : Option Addr) (c : Nat) : Prop := w.heap[g]? = some (.cells (dlL d fo c).toArray 42 (0, 0))
theorem DlA.lt {w : World} {g : Nat} {d : Dl} {fo : Option Addr} {c : Nat} (h : DlA w g d fo c) : g < w.heap.size := (Array.getElem?_eq_some_iff.1 h).1
theorem DlA.frz {w : World} {g : Nat} {d : Dl} {fo : Option Addr} {c : Nat} (h : DlA w g d fo c) (j : Nat) : w.frozen? ⟨g, j, none⟩ = false := Lib.frozen_of_heap h j
theorem DlA.cells {w : World} {g : Nat} {d : Dl} {fo : Option Addr} {c : Nat} (h : DlA w g d fo c) : w.cell? ⟨g, 0, none⟩ = some (.string ⟨d.label.toArray⟩) ∧ w.cell? ⟨g, 1, none⟩ = some (.bool d.lab) ∧ w.cell? ⟨g, 2, none⟩ = some (.string ⟨d.name.toArray⟩) ∧ w.cell? ⟨g, 3, none⟩ = some (.slice fo d.fields.length c) ∧ w.cell? ⟨g, 4, none⟩ = some (.int .i64 d.words) ∧ w.cell? ⟨g, 5, none⟩ = some (.bool d.bad) := by
  refine ⟨?_, ?_, ?_, ?_, ?_, ?_⟩ <;> (rw [Lib.cell_of_heap h]; rfl)
theorem DlA.keep {w w' : World} {g : Nat} {d : Dl} {fo : Option Addr} {c : Nat} (h : DlA w g d fo c) (hb : Below w.heap.size w w') : DlA w' g d fo c := by
  show w'.heap[g]? = _
  rw [hb.block g h.lt]
  exact h
theorem DlA.other {w : World} {g : Nat} {d : Dl} {fo : Option Addr} {c : Nat} (h : DlA w g d fo c) {k j : Nat} (v : Value) (hk : g ≠ k) : DlA (w.setCell ⟨k, j, none⟩ v) g d fo c := by
  show (w.setCell ⟨k, j, none⟩ v).heap[g]? = _
  rw [heap_setCell_other w ⟨k, j, none⟩ g v hk]
  exact h
theorem DlA.label {w : World} {g : Nat} {d : Dl} {fo : Option Addr} {c : Nat} (h : DlA w g d fo c) (s : Tx) : DlA (w.setCell ⟨g, 0, none⟩ (.string ⟨s.toArray⟩)) g { d with label := s } fo c := heap_setCell_same w g 0 _ _ _ h
theorem DlA.lab {w : World} {g : Nat} {d : Dl} {fo : Option Addr} {c : Nat} (h : DlA w g d fo c) (b : Bool) : DlA (w.setCell ⟨g, 1, none⟩ (.bool b)) g { d with lab := b } fo c := heap_setCell_same w g 1 _ _ _ h
theorem DlA.name {w : World} {g : Nat} {d : Dl} {fo : Option Addr} {c : Nat} (h : DlA w g d fo c) (s : Tx) : DlA (w.setCell ⟨g, 2, none⟩ (.string ⟨s.toArray⟩)) g { d with name := s } fo c := heap_setCell_same w g 2 _ _ _ h
theorem DlA.words {w : World} {g : Nat} {d : Dl} {fo : Option Addr} {c : Nat} (h : DlA w g d fo c) (z : Int) : DlA (w.setCell ⟨g, 4, none⟩ (.int .i64 z)) g { d with words := z } fo c := heap_setCell_same w g 4 _ _ _ h
theorem DlA.bad {w : World} {g : Nat} {d : Dl} {fo : Option Addr} {c : Nat} (h : DlA w g d fo c) (b : Bool) : DlA (w.setCell ⟨g, 5, none⟩ (.bool b)) g { d with bad := b } fo c := heap_setCell_same w g 5 _ _ _ h
theorem DlA.fields {w : World} {g : Nat} {d : Dl} {fo : Option Addr} {c : Nat} (h : DlA w g d fo c) (fs : List Tx) (fo' : Option Addr) (c' n : Nat) (hn : n = fs.length) : DlA (w.setCell ⟨g, 3, none⟩ (.slice fo' n c')) g { d with fields := fs } fo' c' := by
  subst hn
  exact heap_setCell_same w g 3 _ _ _ h
/-- a row of strings of one's own lies beside a line's block -/
theorem DlA.apart {w : World} {g : Nat} {d : Dl} {fo : Option Addr} {c base n : Nat} {v : Value} {xs : List Value} (h : DlA w g d fo c) (ho : w.ownsRow base 9 1 v n xs) : some g ≠ v.ownBlock := own_apart ho h (by decide)
theorem DlA.grown {w w' : World} {g : Nat} {d : Dl} {fo : Option Addr} {c base n : Nat} {v : Value} {xs : List Value} (h : DlA w g d fo c) (ho : w.ownsRow base 9 1 v n xs) (hg : w.grownBy w' v.ownBlock) : DlA w' g d fo c := (hg.block g h.lt (h.apart ho)).trans h
/-- a row's strings -/
theorem own_SR {w : World} {base n : Nat} {fo : Option Addr} {c : Nat} {fs : List Tx} (h : w.ownsRow base 9 1 (.slice fo n c) n (strs fs)) : SR w fo fs := by
  intro j hj
  have hj' : j < (strs fs).length := by simpa [strs] using hj
  have hl := h.1
  rcases h.2 with ⟨h1, h2⟩ | ⟨k, cap, cur, h1, h2, h3, _, _, _, h7⟩
  · omega
  · simp only [Value.slice.injEq] at h1
    refine ⟨_, h1.1, ?_⟩
    rw [add0, Lib.cell_of_heap h3]
    have e : (cur.toList.take (n * 1))[j]? = some (strs fs)[j] := by rw [h7]; exact List.getElem?_eq_getElem hj'
    rw [List.getElem?_take] at e
    split at e
    · simpa [strs] using e
    · cases e
end Go.Proofs.YtbfagiofhakjnaaDoor

namespace Go.Proofs.YtbfagiofhakjnaaDoor
open Go.RowKit
theorem dl_sets {w1 : World} {g : Nat} {d0 : Dl} {fo0 : Option Addr} {c0 : Nat} (q : DlA w1 g d0 fo0 c0) (d : Dl) (fo : Option Addr) (c : Nat) :
    DlA ((((((w1.setCell ⟨g, 0, none⟩ (.string ⟨d.label.toArray⟩)).setCell ⟨g, 1, none⟩ (.bool d.lab)).setCell ⟨g, 2, none⟩ (.string ⟨d.name.toArray⟩)).setCell ⟨g, 3, none⟩ (.slice fo d.fields.length c)).setCell ⟨g, 4, none⟩ (.int .i64 d.words)).setCell ⟨g, 5, none⟩ (.bool d.bad)) g d fo c := by
  have h1 := q.label d.label
  have h2 := h1.lab d.lab
  have h3 := h2.name d.name
  have h4 := h3.fields d.fields fo c d.fields.length rfl
  have h5 := h4.words d.words
  exact h5.bad d.bad
theorem six {a w1 : World} {B g : Nat} {v0 v1 v2 v3 v4 v5 : Value} (h : Below B a w1) (hg : B ≤ g) : Below B a ((((((w1.setCell ⟨g, 0, none⟩ v0).setCell ⟨g, 1, none⟩ v1).setCell ⟨g, 2, none⟩ v2).setCell ⟨g, 3, none⟩ v3).setCell ⟨g, 4, none⟩ v4).setCell ⟨g, 5, none⟩ v5) :=
  (((((h.setCell hg _).setCell hg _).setCell hg _).setCell hg _).setCell hg _).setCell hg _
theorem own_six {w1 : World} {base n g : Nat} {v : Value} {xs : List Value} {d0 : Dl} {fo0 : Option Addr} {c0 : Nat} {v0 v1 v2 v3 v4 v5 : Value} (ho : w1.ownsRow base 9 1 v n xs) (q : DlA w1 g d0 fo0 c0) : World.ownsRow ((((((w1.setCell ⟨g, 0, none⟩ v0).setCell ⟨g, 1, none⟩ v1).setCell ⟨g, 2, none⟩ v2).setCell ⟨g, 3, none⟩ v3).setCell ⟨g, 4, none⟩ v4).setCell ⟨g, 5, none⟩ v5) base 9 1 v n xs := by
  have hne := q.apart ho
  obtain ⟨h1, h2 | ⟨k, cap, cur, h2, h3, h4, h5⟩⟩ := ho
  · exact ⟨h1, .inl h2⟩
  · subst h2
    have hk : k ≠ g := by intro e; subst e; exact hne rfl
    refine ⟨h1, .inr ⟨k, cap, cur, rfl, h3, ?_, h5⟩⟩
    rw [heap_setCell_other _ ⟨g, 5, none⟩ k _ hk, heap_setCell_other _ ⟨g, 4, none⟩ k _ hk, heap_setCell_other _ ⟨g, 3, none⟩ k _ hk, heap_setCell_other _ ⟨g, 2, none⟩ k _ hk, heap_setCell_other _ ⟨g, 1, none⟩ k _ hk, heap_setCell_other _ ⟨g, 0, none⟩ k _ hk]
    exact h4
theorem info_dl : (Tryd.prog.info? 42).map (·.size) = some 6 := by kernel_rfl
theorem own_set {w1 : World} {base n g j : Nat} {v : Value} {xs : List Value} {d0 : Dl} {fo0 : Option Addr} {c0 : Nat} (ho : w1.ownsRow base 9 1 v n xs) (q : DlA w1 g d0 fo0 c0) (u : Value) : (w1.setCell ⟨g, j, none⟩ u).ownsRow base 9 1 v n xs := by
  have hne := q.apart ho
  obtain ⟨h1, h2 | ⟨k, cap, cur, h2, h3, h4, h5⟩⟩ := ho
  · exact ⟨h1, .inl h2⟩
  · subst h2
    have hk : k ≠ g := by intro e; subst e; exact hne rfl
    refine ⟨h1, .inr ⟨k, cap, cur, rfl, h3, ?_, h5⟩⟩
    rw [heap_setCell_other _ ⟨g, j, none⟩ k _ hk]
    exact h4
theorem own_base {w1 : World} {base base' n : Nat} {v : Value} {xs : List Value} (ho : w1.ownsRow base' 9 1 v n xs) (h : base ≤ base') : w1.ownsRow base 9 1 v n xs := by
  obtain ⟨h1, h2 | ⟨k, cap, cur, h2, h3, h4⟩⟩ := ho
  · exact ⟨h1, .inl h2⟩
  · exact ⟨h1, .inr ⟨k, cap, cur, h2, Nat.le_trans h h3, h4⟩⟩
theorem Kp.drew {g : Nat} {a b : World} (h : Kp g a b) : Kp g a b.drew := ⟨h.os, h.tape, h.output, h.size, h.block⟩
theorem Kp.grown {g : Nat} {a b c : World} {row : Option Nat} (h : Kp g a b) (hg : b.grownBy c row) (hr : ∀ k, row = some k → a.heap.size ≤ k) : Kp g a c :=
  ⟨hg.os.trans h.os, hg.tape.trans h.tape, hg.output.trans h.output, Nat.le_trans h.size hg.size, fun k hk hn => (hg.block k (Nat.lt_of_lt_of_le hk h.size) (fun e => by have := hr k e.symm; omega)).trans (h.block k hk hn)⟩
theorem Kp.alloc {g : Nat} {a b : World} (h : Kp g a b) (o : Obj) : Kp g a (b.alloc o) := h.grown (World.grownBy_alloc b o none) (fun k e => by cases e)
theorem Kp.dl {g k : Nat} {a b : World} {d : Dl} {fo : Option Addr} {c : Nat} (h : Kp g a b) (q : DlA a k d fo c) (hk : k ≠ g) : DlA b k d fo c := (h.block k q.lt hk).trans q
theorem Kp.cl {g : Nat} {a b : World} {x : Addr} {v : Value} (h : Kp g a b) (q : a.cell? x = some v) (hk : x.block ≠ g) : b.cell? x = some v := by
  rw [World.cell?_of_block (h.block x.block (cell_blk q) hk)]
  exact q
/-- goes the loop on -/
def cnB (u : Tx) (i : Nat) : Bool := match u[i]? with
  | none => false
  | some d => !([32, 9] : Tx).contains d
theorem cn_end {u : Tx} {i : Nat} (h : ¬ i < u.length) : cnB u i = false := by unfold cnB; rw [List.getElem?_eq_none (by omega)]
theorem cn_at {u : Tx} {i : Nat} {d : UInt8} (h : i < u.length) (hd : u[i] = d) : cnB u i = !([32, 9] : Tx).contains d := by unfold cnB; rw [List.getElem?_eq_getElem h, hd]
theorem stD_eq {u : Tx} {i : Nat} (hne : u ≠ []) (hi : i ≤ u.length) (h : ∀ j (hj : j < u.length), j < i → ([32, 9] : Tx).contains u[j] = false) (he : cnB u i = false) {F : List Tx} (hF : F = if trimT (u.drop i) = [] then [] else (splitT 44 (trimT (u.drop i))).map trimT) : stD u = ⟨[], false, u.take i, F, (frm (u.take i) F).1, !(frm (u.take i) F).2⟩ := by
  obtain ⟨h1, h2⟩ := st_parts hi h (fun hj => by have := cn_at hj rfl; rw [he] at this; cases hx : ([32, 9] : Tx).contains u[i] with | true => rfl | false => rw [hx] at this; cases this)
  have e : sfT ((cutT [32, 9] u).getD (u, [])).2 = F := by unfold sfT; rw [h2, hF]
  unfold stD
  rw [if_neg hne, h1, e]
section
variable {P : Program} {ops : Array Oper} {Q : Exit → Act → World → Prop} {S : World → Prop} {fuel : Nat} {listed : Array Bool} {a : Act} {w : World}
theorem hd_call (i : Nat) {o : Oper} (hr : Region.ready .any ops listed = [i]) (ho : ops[i]? = some o) (hw : Region.wanted o (yielded ops a.tmps) = true)
    (h : ∀ K : Act → World → Prop, (∀ a w, S w → wpAnyH P .any ops Q S fuel (listed.setIfInBounds i true) a w → K a w) → Oper.wp P o a w K Q) : wpAnyH P .any ops Q S (fuel + 1) listed a w := held_call i hr ho hw h
theorem hd_take (i : Nat) {o : Oper} (v : Value) (hs : Region.noSelect ops = true) (hf : Region.free .any ops listed i = true) (hr : (Region.ready .any ops listed).contains i = true) (ho : ops[i]? = some o) (hw : Region.wanted o (yielded ops a.tmps) = true)
    (hy : ∀ w, S w → (execOp a.eval o).run P w = .ok (.value v) w)
    (hQ : ∀ c a w, Q (.panic c) (a.put o.dst v) w → Q (.panic c) a w) (h0 : S w) (h : wpAnyH P .any ops Q S fuel (listed.setIfInBounds i true) (a.put o.dst v) w) : wpAnyH P .any ops Q S (fuel + 1) listed a w := held_take i v hs hf hr ho hw hy hQ h0 h
theorem hd_both (i j : Nat) {o1 o2 : Oper} (hr : Region.ready .any ops listed = [i, j]) (ho1 : ops[i]? = some o1) (ho2 : ops[j]? = some o2) (hw1 : Region.wanted o1 (yielded ops a.tmps) = true) (hw2 : Region.wanted o2 (yielded ops a.tmps) = true)
    (h1 : ∀ K : Act → World → Prop, (∀ a w, S w → wpAnyH P .any ops Q S fuel (listed.setIfInBounds i true) a w → K a w) → Oper.wp P o1 a w K Q)
    (h2 : ∀ K : Act → World → Prop, (∀ a w, S w → wpAnyH P .any ops Q S fuel (listed.setIfInBounds j true) a w → K a w) → Oper.wp P o2 a w K Q) : wpAnyH P .any ops Q S (fuel + 1) listed a w := by
  refine wpAnyH_ready hr (by simp) (AllReadyH.cons ho1 (fun K hK => ?_) (AllReadyH.cons ho2 (fun K hK => ?_) AllReadyH.nil))
  · rw [if_pos hw1]; exact h1 K (fun a w hS hh => hK.out a w hS (fun _ => hh))
  · rw [if_pos hw2]; exact h2 K (fun a w hS hh => hK.out a w hS (fun _ => hh))
end
section
variable (w : World)
theorem add_blk (x : Addr) (j : Nat) : (x.add j).block = x.block := by unfold Addr.add; split <;> rfl
theorem trimmed_sym (s : Tx) (hl : s.length ≤ 16384) : Calls Tryd.prog 19 #[.string ⟨s.toArray⟩] w fun e w' => e = .returned (.string ⟨(trimT s).toArray⟩) ∧ w = w' := (trimmed_any w s hl).mono fun _ _ h => ⟨h.1, h.2.symm⟩
set_option maxRecDepth 100000 in
set_option maxHeartbeats 4000000 in
theorem parsed_nn (s : Tx) (hl : s.length ≤ 16384) (hNm : Nms w) (h59 : cutT [59] s = none) (h58 : cutT [58] (trimT s) = none) : Calls Tryd.prog 12 #[.string ⟨s.toArray⟩] w fun e w' => ∃ fo c, e = .returned (.agg (dlL (lineD s) fo c).toArray) ∧ w'.ownsRow w.heap.size 9 1 (.slice fo (lineD s).fields.length c) (lineD s).fields.length (strs (lineD s).fields) ∧ Below w.heap.size w w' := by
  have HV : Hid (lineD s = stD (trimT s)) := hide (by unfold lineD; rw [h59]; simp only [Option.getD_none]; rw [h58])
  have HF := hide (fun W => find_any W s 59 hl)
  rw [fnd_none h59] at HF
  have HTm := hide (fun W => trimmed_any W s hl)
  have htl : (trimT s).length ≤ 16384 := by have := trimT_len s; omega
  have HG := hide (fun W => find_any W (trimT s) 58 htl)
  rw [fnd_none h58] at HG
  generalize lineD s = L at *
  generalize trimT s = t at *
  have HB : Hid (Below w.heap.size w ((w.alloc (.cells (dlL dl0 none 0).toArray 42)).alloc (.cells (dlL dl0 none 0).toArray 42))) := hide ((bel1 w _).alloc (by simp) _)
  have HR : Hid (DlA ((w.alloc (.cells (dlL dl0 none 0).toArray 42)).alloc (.cells (dlL dl0 none 0).toArray 42)) w.heap.size dl0 none 0) := hide (DlA.keep (w := w.alloc (.cells (dlL dl0 none 0).toArray 42)) (heap_alloc_last _ _) (bel1 _ _))
  have HD : Hid (DlA ((w.alloc (.cells (dlL dl0 none 0).toArray 42)).alloc (.cells (dlL dl0 none 0).toArray 42)) (w.heap.size + 1) dl0 none 0) := hide (by have := heap_alloc_last (w.alloc (.cells (dlL dl0 none 0).toArray 42)) (.cells (dlL dl0 none 0).toArray 42); rw [World.size_alloc] at this; exact this)
  have HNm := hide hNm
  clear h59 h58 hl hNm
  go_enter Tryd.func12, Tryd.ntmps12
  go_wp2_with fail
  refine (HF.out _).mono ?_
  rintro e w1 ⟨rfl, rfl⟩
  go_wp2_with fail
  refine (HTm.out _).mono ?_
  rintro e w1 ⟨rfl, rfl⟩
  go_wp2_with fail
  refine (HG.out _).mono ?_
  rintro e w1 ⟨rfl, rfl⟩
  simp only [dlL, dl0] at HB HR HD
  generalize (w.alloc (.cells #[.string ⟨#[]⟩, .bool false, .string ⟨#[]⟩, .slice none 0 0, .int .i64 0, .bool false] 42)).alloc (.cells #[.string ⟨#[]⟩, .bool false, .string ⟨#[]⟩, .slice none 0 0, .int .i64 0, .bool false] 42) = W at *
  obtain ⟨u, hu⟩ : ∃ u, u = t := ⟨_, rfl⟩
  subst hu
  have hul := htl
  clear htl
  clear HF HTm HG
  rcases u with _ | ⟨x0, u0⟩
  · have fr := fun j => HR.out.frz j
    obtain ⟨r0, r1, r2, r3, r4, r5⟩ := HR.out.cells
    obtain ⟨q0, q1, q2, q3, q4, q5⟩ := HD.out.cells
    have HS := hide (dl_sets HR.out (⟨[], false, [], [], 0, false⟩ : Dl) none 0)
    go_wp2
    refine bodyPost_ret (results_cell_row rfl _ _ w.heap.size 42 (dlL (⟨[], false, [], [], 0, false⟩ : Dl) none 0).toArray (0, 0) _ rfl HS.out Tryd.underlying42 rfl info_dl) rfl ?_
    exact ⟨none, 0, by rw [HV.out] <;> rfl, by rw [HV.out]; exact own_six (World.ownsRow_nil _ _ _ _) HR.out, six HB.out (Nat.le_refl _)⟩
  · have hne : x0 :: u0 ≠ [] := by simp
    go_upto_region 16 with fail
    generalize x0 :: u0 = u at *
    go_loopw [5] (fun v wr => ∃ i : Nat, v = .int .i64 (i : Int) ∧ i ≤ u.length ∧ Hid (∀ j (hj : j < u.length), j < i → ([32, 9] : Tx).contains u[j] = false) ∧ wr = W) (fun v _ => u.length - (intOf v).toNat)
    case atStart => exact ⟨0, rfl, by omega, hide (fun j _ h => by omega), rfl⟩
    case round =>
    obtain ⟨i, rfl, hi, HNo, hWr⟩ := hrel
    subst hWr
    go_upto_region 16 with fail
    go_cut [59] from 44 to 61 (fun v wx => v = .bool (cnB u i) ∧ wx = wr)
    case first =>
      by_cases hlt : i < u.length
      · have hltI : (i : Int) < (u.length : Int) := by omega
        obtain ⟨d, hd⟩ : ∃ d, u[i] = d := ⟨_, rfl⟩
        have hg : (⟨u.toArray⟩ : ByteArray)[i]'hlt = d := hd
        have HC := hide (cn_at hlt hd)
        rw [bl_or] at HC
        clear HNo
        by_cases h32 : (d.toNat : Int) = 32
        · have hb : ((d.toNat : Int) == 32) = true := by rw [beq_iff_eq]; exact h32
          have hbn : ((d.toNat : Int) != 32) = false := by unfold bne; rw [hb]; rfl
          rw [hb] at HC
          clear h32
          go_wp2_with fail
          go_meet
          case rel => exact ⟨by rw [HC.out] <;> rfl, rfl⟩
        · have hb : ((d.toNat : Int) == 32) = false := by rw [beq_eq_false_iff_ne]; exact h32
          have hbn : ((d.toNat : Int) != 32) = true := by unfold bne; rw [hb]; rfl
          by_cases h9 : (d.toNat : Int) = 9
          · have hb9 : ((d.toNat : Int) == 9) = true := by rw [beq_iff_eq]; exact h9
            have hb9n : ((d.toNat : Int) != 9) = false := by unfold bne; rw [hb9]; rfl
            rw [hb, hb9] at HC
            clear h32 h9
            go_wp2_with fail
            go_meet
            case rel => exact ⟨by rw [HC.out] <;> rfl, rfl⟩
          · have hb9 : ((d.toNat : Int) == 9) = false := by rw [beq_eq_false_iff_ne]; exact h9
            have hb9n : ((d.toNat : Int) != 9) = true := by unfold bne; rw [hb9]; rfl
            rw [hb, hb9] at HC
            clear h32 h9
            go_wp2_with fail
            go_meet
            case rel => exact ⟨by rw [HC.out] <;> rfl, rfl⟩
      · have hltI : ¬ (i : Int) < (u.length : Int) := by omega
        have HC := hide (cn_end hlt)
        clear HNo
        go_wp2_with fail
        go_meet
        case rel => exact ⟨by rw [HC.out] <;> rfl, rfl⟩
    case rest =>
    obtain ⟨hv, hw⟩ := hcut
    subst hv
    subst hw
    cases hcn : cnB u i with
    | true =>
      have hlt : i < u.length := by by_cases h : i < u.length; exact h; rw [cn_end h] at hcn; cases hcn
      have HN2 : Hid (∀ j (hj : j < u.length), j < i + 1 → ([32, 9] : Tx).contains u[j] = false) := hide (fun j hj h => by
        by_cases e : j = i
        · subst e; have := cn_at hj rfl; rw [hcn] at this; simpa using this.symm
        · exact HNo.out j hj (by omega))
      clear HNo
      go_wp2
      refine ⟨⟨i + 1, by simp, by omega, HN2, trivial⟩, ?_⟩
      simp [intOf]
      omega
    | false =>
      have HSt := hide (fun F hF => stD_eq (F := F) hne hi HNo.out hcn hF)
      clear HNo hcn hne
      have e3 : (⟨u.toArray⟩ : ByteArray).extract 0 i = ⟨(u.take i).toArray⟩ := by rw [ext_mk]; simp
      have e4 : (⟨u.toArray⟩ : ByteArray).extract i u.length = ⟨(u.drop i).toArray⟩ := by rw [ext_mk]; simp
      have hiI : (i : Int) ≤ (u.length : Int) := by omega
      have hdl : (u.drop i).length ≤ 16384 := by simp; omega
      have HTr := hide (fun W => trimmed_any W (u.drop i) hdl)
      have hRl : (trimT (u.drop i)).length ≤ 16384 := by have := trimT_len (u.drop i); omega
      obtain ⟨R, hR⟩ : ∃ R, trimT (u.drop i) = R := ⟨_, rfl⟩
      rw [hR] at HSt HTr hRl
      clear hR
      generalize u.drop i = dr at *
      generalize u.take i = nme at *
      have frg := fun j => HD.out.frz j
      obtain ⟨q0, q1, q2, q3, q4, q5⟩ := HD.out.cells
      simp only at q0 q1 q2 q3 q4 q5
      go_wp2_with fail
      refine (HTr.out _).mono ?_
      rintro e w1 ⟨rfl, rfl⟩
      have HD2 := hide (HD.out.name nme)
      have HR2 := hide (HR.out.other (k := w.heap.size + 1) (j := 2) (.string ⟨nme.toArray⟩) (by omega))
      have HB2 := hide (HB.out.setCell (p := ⟨w.heap.size + 1, 2, none⟩) (by simp) (.string ⟨nme.toArray⟩))
      clear frg q0 q1 q2 q3 q4 q5 HTr HD HR HB
      generalize wc.setCell ⟨w.heap.size + 1, 2, none⟩ (.string ⟨nme.toArray⟩) = W2 at *
      rcases R with _ | ⟨y0, R0⟩
      · have HVL : Hid (L = ⟨[], false, nme, [], (frm nme []).1, !(frm nme []).2⟩) := hide (by rw [HV.out, HSt.out [] rfl])
        have HOx := hide (World.ownsRow_nil W2 w.heap.size 9 1)
        have hFf : ∀ f ∈ ([] : List Tx), f.length ≤ 16384 := by simp
        have hFl : ([] : List Tx).length ≤ 16385 := by simp
        have HBx := HB2
        have HRx := HR2
        have HDx := HD2
        clear HB2 HR2 HD2 HSt HV
        have HFm := hide (formed_any W2 nme none 0 [] hFf hFl (own_SR HOx.out) (HNm.out.below HBx.out))
        have frg := fun j => HDx.out.frz j
        obtain ⟨q0, q1, q2, q3, q4, q5⟩ := HDx.out.cells
        simp only at q0 q1 q2 q3 q4 q5
        obtain ⟨z, hz⟩ : ∃ z, (frm nme []).1 = z := ⟨_, rfl⟩
        obtain ⟨ok, hok⟩ : ∃ ok, (frm nme []).2 = ok := ⟨_, rfl⟩
        rw [hz, hok] at HVL
        rw [hz, hok] at HFm
        clear hz hok
        go_wp2_with fail
        refine HFm.out.mono ?_
        rintro e w1 ⟨rfl, rfl⟩
        go_upto_region 29 with fail
        have HD9 := hide ((HDx.out.words z).bad (!ok))
        have HR9 := hide ((HRx.out.other (k := w.heap.size + 1) (j := 4) (.int .i64 z) (by omega)).other (k := w.heap.size + 1) (j := 5) (.bool (!ok)) (by omega))
        have HO9 := hide (own_set (own_set HOx.out HDx.out (j := 4) (.int .i64 z)) (HDx.out.words z) (j := 5) (.bool (!ok)))
        have HB9 := hide ((HBx.out.setCell (p := ⟨w.heap.size + 1, 4, none⟩) (by simp) (.int .i64 z)).setCell (p := ⟨w.heap.size + 1, 5, none⟩) (by simp) (.bool (!ok)))
        clear frg q0 q1 q2 q3 q4 q5 HFm HDx HRx HOx HBx
        generalize (w1.setCell ⟨w.heap.size + 1, 4, none⟩ (.int .i64 z)).setCell ⟨w.heap.size + 1, 5, none⟩ (.bool (!ok)) = Y at *
        have fr := fun j => HR9.out.frz j
        obtain ⟨r0, r1, r2, r3, r4, r5⟩ := HR9.out.cells
        obtain ⟨q0, q1, q2, q3, q4, q5⟩ := HD9.out.cells
        have HS := hide (dl_sets HR9.out (⟨[], false, nme, [], z, !ok⟩ : Dl) none 0)
        simp only at q0 q1 q2 q3 q4 q5 HS
        go_wp2
        refine bodyPost_ret (results_cell_row rfl _ _ w.heap.size 42 (dlL (⟨[], false, nme, [], z, !ok⟩ : Dl) none 0).toArray (0, 0) _ rfl HS.out Tryd.underlying42 rfl info_dl) rfl ?_
        exact ⟨none, 0, by rw [HVL.out] <;> rfl, by rw [HVL.out]; exact own_six HO9.out HR9.out, six HB9.out (Nat.le_refl _)⟩
      · have hRn : y0 :: R0 ≠ [] := by simp
        have HVL0 : Hid (∀ F, F = (splitT 44 (y0 :: R0)).map trimT → L = ⟨[], false, nme, F, (frm nme F).1, !(frm nme F).2⟩) := hide (fun F hF => by rw [HV.out, HSt.out F (by rw [if_neg hRn]; exact hF)])
        have HPc := hide (fun W => pieces_any W (y0 :: R0) 44 hRl)
        have hcnt := split_count 44 (y0 :: R0)
        have HPl : Hid (∀ p ∈ splitT 44 (y0 :: R0), p.length ≤ 16384) := hide (fun p hp => by have := split_len 44 (y0 :: R0) p hp; omega)
        clear HSt HV hRn
        go_wp2_with fail
        refine (HPc.out _).mono ?_
        rintro e w3 ⟨v, rfl, ho3, hb3⟩
        obtain ⟨ap, cp, rfl⟩ := own_shape ho3
        have HSp := hide (own_SR ho3)
        have HNg : Hid (∀ x, ap = some x → x.block ≠ w.heap.size + 1) := hide (fun x hx => by subst hx; have := (ho3.lt x.block rfl).1; have := HD2.out.lt; omega)
        have HD3 := hide (HD2.out.keep hb3)
        have HR3 := hide (HR2.out.keep hb3)
        have HB3 := hide (HB2.out.trans (hb3.mono HB2.out.size))
        have hs3 := hb3.size
        have hg3 := HD2.out.lt
        clear ho3 hb3 HD2 HR2 HB2 HPc
        generalize hps : splitT 44 (y0 :: R0) = ps at *
        clear hps
        have hcn2 : ps.length ≤ 16385 := by simp only [List.length_cons] at hcnt hRl; omega
        clear hcnt
        obtain ⟨i9, hi9, hz9, hsz9, hb9⟩ := info_str
        go_upto_region 23 with fail
        go_loopw [8] (fun v wr => ∃ (j : Nat) (fo : Option Addr) (c : Nat), v = .int .i64 (j : Int) ∧ j ≤ ps.length ∧ Hid (wr.ownsRow w3.heap.size 9 1 (.slice fo j c) j (strs ((ps.take j).map trimT))) ∧ Hid (DlA wr (w.heap.size + 1) (⟨[], false, nme, (ps.take j).map trimT, 0, false⟩ : Dl) fo c) ∧ Hid (Kp (w.heap.size + 1) w3 wr)) (fun v _ => ps.length - (intOf v).toNat)
        case atStart => exact ⟨0, none, 0, rfl, by omega, hide (World.ownsRow_nil _ _ _ _), HD3, hide (Kp.refl _ _)⟩
        case round =>
        obtain ⟨j, fo, c, rfl, hj, HOw, HDw, HKw⟩ := hrel
        by_cases hlt : j < ps.length
        · have hltI : (j : Int) < (ps.length : Int) := by omega
          obtain ⟨x, hx, cx⟩ := HSp.out j hlt
          subst hx
          have hxb := HNg.out x rfl
          have hjl : ((ps.take j).map trimT).length = j := by simp; omega
          have HE : Hid ((ps.take (j + 1)).map trimT = (ps.take j).map trimT ++ [trimT ps[j]]) := hide (by rw [List.take_succ_eq_append_getElem hlt, List.map_append]; rfl)
          have HTr := hide (fun W => (trimmed_sym W ps[j] (HPl.out _ (List.getElem_mem hlt))))
          generalize ps[j] = p at *
          go_upto_region 25 with fail
          have hcx := HKw.out.cl cx (by rw [add_blk]; exact hxb)
          obtain ⟨wd, hwd⟩ : ∃ wd, wd = wr.drew := ⟨_, rfl⟩
          have HOd : Hid (wd.ownsRow w3.heap.size 9 1 (.slice fo j c) j (strs ((ps.take j).map trimT))) := by rw [hwd]; exact hide HOw.out
          have HDd : Hid (DlA wd (w.heap.size + 1) (⟨[], false, nme, (ps.take j).map trimT, 0, false⟩ : Dl) fo c) := by rw [hwd]; exact hide HDw.out
          have HKd : Hid (Kp (w.heap.size + 1) w3 wd) := by rw [hwd]; exact hide HKw.out.drew
          have HSd : Hid (wd.cell? (x.add j) = some (.string ⟨p.toArray⟩)) := by rw [hwd]; exact hide hcx
          refine wp_region_held_drew (S := fun W => W.cell? (x.add j) = some (.string ⟨p.toArray⟩)) (by kernel_rfl) (by rw [← hwd]; exact HSd.out) (fun hHeld => ?_)
          rw [← hwd]
          have cxK := hide cx
          clear hwd hHeld hcx cx HOw HDw HKw
          obtain ⟨-, -, -, q3, -, -⟩ := HDd.out.cells
          simp only [hjl] at q3
          refine hd_take 0 (o := ⟨some 80, _, _, _, _, _⟩) (.pointer (some ⟨w.heap.size + 1, 3, none⟩)) (by kernel_rfl) (by kernel_rfl) (by kernel_rfl) rfl (by rfl) (fun W hSw => by go_simp) (fun _ _ _ h => h) HSd.out ?_
          simp only [Act.put, List.setIfInBounds_toArray, List.set_cons_zero, List.set_cons_succ]
          refine hd_take 2 (o := ⟨some 82, _, _, _, _, _⟩) (.slice (some x) ps.length cp) (by kernel_rfl) (by kernel_rfl) (by kernel_rfl) rfl (by rfl) (fun W hSw => by go_simp) (fun _ _ _ h => h) HSd.out ?_
          simp only [Act.put, List.setIfInBounds_toArray, List.set_cons_zero, List.set_cons_succ]
          refine hd_take 3 (o := ⟨some 83, _, _, _, _, _⟩) (.int .i64 (j : Int)) (by kernel_rfl) (by kernel_rfl) (by kernel_rfl) rfl (by rfl) (fun W hSw => by go_simp) (fun _ _ _ h => h) HSd.out ?_
          simp only [Act.put, List.setIfInBounds_toArray, List.set_cons_zero, List.set_cons_succ]
          refine hd_take 4 (o := ⟨some 84, _, _, _, _, _⟩) (.pointer (some (x.add j))) (by kernel_rfl) (by kernel_rfl) (by kernel_rfl) rfl (by rfl) (fun W hSw => by go_simp) (fun _ _ _ h => h) HSd.out ?_
          simp only [Act.put, List.setIfInBounds_toArray, List.set_cons_zero, List.set_cons_succ]
          refine hd_take 5 (o := ⟨some 85, _, _, _, _, _⟩) (.string ⟨p.toArray⟩) (by kernel_rfl) (by kernel_rfl) (by kernel_rfl) rfl (by rfl) (fun W hSw => by go_simp) (fun _ _ _ h => h) HSd.out ?_
          simp only [Act.put, List.setIfInBounds_toArray, List.set_cons_zero, List.set_cons_succ]
          refine hd_both 1 6 (o1 := ⟨some 81, _, _, _, _, _⟩) (o2 := ⟨some 86, _, _, _, _, _⟩) (by kernel_rfl) rfl rfl (by rfl) (by rfl) (fun K' hK => ?_) (fun K' hK => ?_)
          · skip
            go_simp
            refine hK _ _ HSd.out ?_
            clear hK K'
            try simp only [Act.put, List.setIfInBounds_toArray, List.set_cons_zero, List.set_cons_succ]
            refine hd_call 6 (o := ⟨some 86, _, _, _, _, _⟩) (by kernel_rfl) rfl (by rfl) (fun K' hK => ?_)
            go_simp
            go_wp2_with (go_at_call 19; refine (HTr.out _).mono ?_; rintro e1 w9 ⟨rfl, hw9⟩; subst hw9)
            refine hK _ _ HSd.out ?_
            clear hK K'
            try simp only [Act.put, List.setIfInBounds_toArray, List.set_cons_zero, List.set_cons_succ]
            refine hd_call 7 (o := ⟨some 87, _, _, _, _, _⟩) (by kernel_rfl) rfl (by rfl) (fun K' hK => ?_)
            have HSe : Hid ((wd.alloc (.cells #[.string ⟨(trimT p).toArray⟩] 9)).cell? (x.add j) = some (.string ⟨p.toArray⟩)) := hide (by rw [World.cell?_alloc_lt _ _ _ (cell_blk HSd.out)]; exact HSd.out)
            have q3e : (wd.alloc (.cells #[.string ⟨(trimT p).toArray⟩] 9)).cell? ⟨w.heap.size + 1, 3, none⟩ = some (.slice fo j c) := by rw [World.cell?_alloc_lt _ _ _ (cell_blk q3)]; exact q3
            go_simp
            refine hK _ _ HSe.out ?_
            clear hK K'
            try simp only [Act.put, List.setIfInBounds_toArray, List.set_cons_zero, List.set_cons_succ]
            refine hd_call 8 (o := ⟨some 88, _, _, _, _, _⟩) (by kernel_rfl) rfl (by rfl) (fun K' hK => ?_)
            refine wp_append_own _ _ _ 38 rfl w3.heap.size 9 i9 (.string ⟨#[]⟩) 1 16 Tryd.underlying38 hi9 hz9 hsz9 hb9 rfl (by decide) (.slice fo j c) j _ rfl (HOd.out.alloc _) ⟨_, 0, none⟩ 1 1 [.string ⟨(trimT p).toArray⟩] rfl rfl (cell_one_new _ _ _) (by simp [Value.oneCell']) (by unfold maxLen; omega) (by omega) (by have := HKd.out.size; simp; omega) ?_
            intro v4 w4 ho4 hg4 _
            obtain ⟨a4, c4, rfl⟩ := own_shape ho4
            have hDa : DlA (wd.alloc (.cells #[.string ⟨(trimT p).toArray⟩] 9)) (w.heap.size + 1) (⟨[], false, nme, (ps.take j).map trimT, 0, false⟩ : Dl) fo c := HDd.out.keep (bel1 _ _)
            have HD4 := hide (hDa.grown (HOd.out.alloc _) hg4)
            have HK4 := hide ((HKd.out.alloc (.cells #[.string ⟨(trimT p).toArray⟩] 9)).grown hg4 (fun k hk => (HOd.out.lt k hk).1))
            have HO4 := hide ho4
            have HS4 := hide (HK4.out.cl cxK.out (by rw [add_blk]; exact hxb))
            clear ho4 hg4 hDa
            refine hK _ _ HS4.out ?_
            clear hK K'
            try simp only [Act.put, List.setIfInBounds_toArray, List.set_cons_zero, List.set_cons_succ]
            refine hd_take 9 (o := ⟨some 89, _, _, _, _, _⟩) (.pointer (some ⟨w.heap.size + 1, 3, none⟩)) (by kernel_rfl) (by kernel_rfl) (by kernel_rfl) rfl (by rfl) (fun W hSw => by go_simp) (fun _ _ _ h => h) HS4.out ?_
            simp only [Act.put, List.setIfInBounds_toArray, List.set_cons_zero, List.set_cons_succ]
            have HD5 := hide (HD4.out.fields ((ps.take j).map trimT ++ [trimT p]) a4 c4 (j + 1) (by simp; omega))
            have HK5 := hide (HK4.out.set (j := 3) (.slice a4 (j + 1) c4))
            have HO5 := hide (own_set HO4.out HD4.out (j := 3) (.slice a4 (j + 1) c4))
            have HS5 := hide (HK5.out.cl cxK.out (by rw [add_blk]; exact hxb))
            obtain ⟨-, -, -, q34, -, -⟩ := HD4.out.cells
            have fr4 := HD4.out.frz 3
            refine hd_call 10 (o := ⟨none, _, _, _, _, _⟩) (by kernel_rfl) rfl (by rfl) (fun K' hK => ?_)
            go_simp
            refine hK _ _ HS5.out ?_
            clear hK K'
            try simp only [Act.put, List.setIfInBounds_toArray, List.set_cons_zero, List.set_cons_succ]
            refine wpAnyH_done (by kernel_rfl) ?_ _
            clear q34 fr4 HD4 HK4 HO4 HS4
            go_wp2
            refine ⟨⟨j + 1, a4, c4, by simp, by omega, hide (by rw [HE.out]; simpa [strs] using HO5.out), hide (by rw [HE.out]; exact HD5.out), HK5⟩, ?_⟩
            simp [intOf]
            omega
          · skip
            go_simp
            go_wp2_with (go_at_call 19; refine (HTr.out _).mono ?_; rintro e1 w9 ⟨rfl, hw9⟩; subst hw9)
            refine hK _ _ HSd.out ?_
            clear hK K'
            try simp only [Act.put, List.setIfInBounds_toArray, List.set_cons_zero, List.set_cons_succ]
            refine hd_both 1 7 (o1 := ⟨some 81, _, _, _, _, _⟩) (o2 := ⟨some 87, _, _, _, _, _⟩) (by kernel_rfl) rfl rfl (by rfl) (by rfl) (fun K' hK => ?_) (fun K' hK => ?_)
            · skip
              go_simp
              refine hK _ _ HSd.out ?_
              clear hK K'
              try simp only [Act.put, List.setIfInBounds_toArray, List.set_cons_zero, List.set_cons_succ]
              refine hd_call 7 (o := ⟨some 87, _, _, _, _, _⟩) (by kernel_rfl) rfl (by rfl) (fun K' hK => ?_)
              have HSe : Hid ((wd.alloc (.cells #[.string ⟨(trimT p).toArray⟩] 9)).cell? (x.add j) = some (.string ⟨p.toArray⟩)) := hide (by rw [World.cell?_alloc_lt _ _ _ (cell_blk HSd.out)]; exact HSd.out)
              have q3e : (wd.alloc (.cells #[.string ⟨(trimT p).toArray⟩] 9)).cell? ⟨w.heap.size + 1, 3, none⟩ = some (.slice fo j c) := by rw [World.cell?_alloc_lt _ _ _ (cell_blk q3)]; exact q3
              go_simp
              refine hK _ _ HSe.out ?_
              clear hK K'
              try simp only [Act.put, List.setIfInBounds_toArray, List.set_cons_zero, List.set_cons_succ]
              refine hd_call 8 (o := ⟨some 88, _, _, _, _, _⟩) (by kernel_rfl) rfl (by rfl) (fun K' hK => ?_)
              refine wp_append_own _ _ _ 38 rfl w3.heap.size 9 i9 (.string ⟨#[]⟩) 1 16 Tryd.underlying38 hi9 hz9 hsz9 hb9 rfl (by decide) (.slice fo j c) j _ rfl (HOd.out.alloc _) ⟨_, 0, none⟩ 1 1 [.string ⟨(trimT p).toArray⟩] rfl rfl (cell_one_new _ _ _) (by simp [Value.oneCell']) (by unfold maxLen; omega) (by omega) (by have := HKd.out.size; simp; omega) ?_
              intro v4 w4 ho4 hg4 _
              obtain ⟨a4, c4, rfl⟩ := own_shape ho4
              have hDa : DlA (wd.alloc (.cells #[.string ⟨(trimT p).toArray⟩] 9)) (w.heap.size + 1) (⟨[], false, nme, (ps.take j).map trimT, 0, false⟩ : Dl) fo c := HDd.out.keep (bel1 _ _)
              have HD4 := hide (hDa.grown (HOd.out.alloc _) hg4)
              have HK4 := hide ((HKd.out.alloc (.cells #[.string ⟨(trimT p).toArray⟩] 9)).grown hg4 (fun k hk => (HOd.out.lt k hk).1))
              have HO4 := hide ho4
              have HS4 := hide (HK4.out.cl cxK.out (by rw [add_blk]; exact hxb))
              clear ho4 hg4 hDa
              refine hK _ _ HS4.out ?_
              clear hK K'
              try simp only [Act.put, List.setIfInBounds_toArray, List.set_cons_zero, List.set_cons_succ]
              refine hd_take 9 (o := ⟨some 89, _, _, _, _, _⟩) (.pointer (some ⟨w.heap.size + 1, 3, none⟩)) (by kernel_rfl) (by kernel_rfl) (by kernel_rfl) rfl (by rfl) (fun W hSw => by go_simp) (fun _ _ _ h => h) HS4.out ?_
              simp only [Act.put, List.setIfInBounds_toArray, List.set_cons_zero, List.set_cons_succ]
              have HD5 := hide (HD4.out.fields ((ps.take j).map trimT ++ [trimT p]) a4 c4 (j + 1) (by simp; omega))
              have HK5 := hide (HK4.out.set (j := 3) (.slice a4 (j + 1) c4))
              have HO5 := hide (own_set HO4.out HD4.out (j := 3) (.slice a4 (j + 1) c4))
              have HS5 := hide (HK5.out.cl cxK.out (by rw [add_blk]; exact hxb))
              obtain ⟨-, -, -, q34, -, -⟩ := HD4.out.cells
              have fr4 := HD4.out.frz 3
              refine hd_call 10 (o := ⟨none, _, _, _, _, _⟩) (by kernel_rfl) rfl (by rfl) (fun K' hK => ?_)
              go_simp
              refine hK _ _ HS5.out ?_
              clear hK K'
              try simp only [Act.put, List.setIfInBounds_toArray, List.set_cons_zero, List.set_cons_succ]
              refine wpAnyH_done (by kernel_rfl) ?_ _
              clear q34 fr4 HD4 HK4 HO4 HS4
              go_wp2
              refine ⟨⟨j + 1, a4, c4, by simp, by omega, hide (by rw [HE.out]; simpa [strs] using HO5.out), hide (by rw [HE.out]; exact HD5.out), HK5⟩, ?_⟩
              simp [intOf]
              omega
            · skip
              have HSe : Hid ((wd.alloc (.cells #[.string ⟨(trimT p).toArray⟩] 9)).cell? (x.add j) = some (.string ⟨p.toArray⟩)) := hide (by rw [World.cell?_alloc_lt _ _ _ (cell_blk HSd.out)]; exact HSd.out)
              have q3e : (wd.alloc (.cells #[.string ⟨(trimT p).toArray⟩] 9)).cell? ⟨w.heap.size + 1, 3, none⟩ = some (.slice fo j c) := by rw [World.cell?_alloc_lt _ _ _ (cell_blk q3)]; exact q3
              go_simp
              refine hK _ _ HSe.out ?_
              clear hK K'
              try simp only [Act.put, List.setIfInBounds_toArray, List.set_cons_zero, List.set_cons_succ]
              refine hd_call 1 (o := ⟨some 81, _, _, _, _, _⟩) (by kernel_rfl) rfl (by rfl) (fun K' hK => ?_)
              go_simp
              refine hK _ _ HSe.out ?_
              clear hK K'
              try simp only [Act.put, List.setIfInBounds_toArray, List.set_cons_zero, List.set_cons_succ]
              refine hd_call 8 (o := ⟨some 88, _, _, _, _, _⟩) (by kernel_rfl) rfl (by rfl) (fun K' hK => ?_)
              refine wp_append_own _ _ _ 38 rfl w3.heap.size 9 i9 (.string ⟨#[]⟩) 1 16 Tryd.underlying38 hi9 hz9 hsz9 hb9 rfl (by decide) (.slice fo j c) j _ rfl (HOd.out.alloc _) ⟨_, 0, none⟩ 1 1 [.string ⟨(trimT p).toArray⟩] rfl rfl (cell_one_new _ _ _) (by simp [Value.oneCell']) (by unfold maxLen; omega) (by omega) (by have := HKd.out.size; simp; omega) ?_
              intro v4 w4 ho4 hg4 _
              obtain ⟨a4, c4, rfl⟩ := own_shape ho4
              have hDa : DlA (wd.alloc (.cells #[.string ⟨(trimT p).toArray⟩] 9)) (w.heap.size + 1) (⟨[], false, nme, (ps.take j).map trimT, 0, false⟩ : Dl) fo c := HDd.out.keep (bel1 _ _)
              have HD4 := hide (hDa.grown (HOd.out.alloc _) hg4)
              have HK4 := hide ((HKd.out.alloc (.cells #[.string ⟨(trimT p).toArray⟩] 9)).grown hg4 (fun k hk => (HOd.out.lt k hk).1))
              have HO4 := hide ho4
              have HS4 := hide (HK4.out.cl cxK.out (by rw [add_blk]; exact hxb))
              clear ho4 hg4 hDa
              refine hK _ _ HS4.out ?_
              clear hK K'
              try simp only [Act.put, List.setIfInBounds_toArray, List.set_cons_zero, List.set_cons_succ]
              refine hd_take 9 (o := ⟨some 89, _, _, _, _, _⟩) (.pointer (some ⟨w.heap.size + 1, 3, none⟩)) (by kernel_rfl) (by kernel_rfl) (by kernel_rfl) rfl (by rfl) (fun W hSw => by go_simp) (fun _ _ _ h => h) HS4.out ?_
              simp only [Act.put, List.setIfInBounds_toArray, List.set_cons_zero, List.set_cons_succ]
              have HD5 := hide (HD4.out.fields ((ps.take j).map trimT ++ [trimT p]) a4 c4 (j + 1) (by simp; omega))
              have HK5 := hide (HK4.out.set (j := 3) (.slice a4 (j + 1) c4))
              have HO5 := hide (own_set HO4.out HD4.out (j := 3) (.slice a4 (j + 1) c4))
              have HS5 := hide (HK5.out.cl cxK.out (by rw [add_blk]; exact hxb))
              obtain ⟨-, -, -, q34, -, -⟩ := HD4.out.cells
              have fr4 := HD4.out.frz 3
              refine hd_call 10 (o := ⟨none, _, _, _, _, _⟩) (by kernel_rfl) rfl (by rfl) (fun K' hK => ?_)
              go_simp
              refine hK _ _ HS5.out ?_
              clear hK K'
              try simp only [Act.put, List.setIfInBounds_toArray, List.set_cons_zero, List.set_cons_succ]
              refine wpAnyH_done (by kernel_rfl) ?_ _
              clear q34 fr4 HD4 HK4 HO4 HS4
              go_wp2
              refine ⟨⟨j + 1, a4, c4, by simp, by omega, hide (by rw [HE.out]; simpa [strs] using HO5.out), hide (by rw [HE.out]; exact HD5.out), HK5⟩, ?_⟩
              simp [intOf]
              omega
        · have ej : j = ps.length := by omega
          have hltI : ¬ (j : Int) < (ps.length : Int) := by omega
          subst ej
          rw [List.take_length] at HOw HDw
          obtain ⟨F, hF⟩ : ∃ F, F = ps.map trimT := ⟨_, rfl⟩
          have hFn : F.length = ps.length := by rw [hF]; simp
          have HVL := hide (HVL0.out F hF)
          have hFf : ∀ f ∈ F, f.length ≤ 16384 := by rw [hF]; intro f hf; obtain ⟨p, hp, rfl⟩ := List.mem_map.1 hf; have := HPl.out p hp; have := trimT_len p; omega
          have hFl : F.length ≤ 16385 := by omega
          rw [← hF] at HOw HDw
          rw [← hFn] at HOw hltI ⊢
          have HOx := hide (own_base HOw.out (show w.heap.size ≤ w3.heap.size by omega))
          have HBx := hide (Kp.below HB3.out HKw.out (by omega) (by omega))
          have HRx := hide (HKw.out.dl HR3.out (by omega))
          have HDx := HDw
          clear HVL0 HPl HSp HNg HD3 HR3 HB3 HKw HOw HDw hF hFn
          have HFm := hide (formed_any wr nme fo c F hFf hFl (own_SR HOx.out) (HNm.out.below HBx.out))
          have frg := fun j => HDx.out.frz j
          obtain ⟨q0, q1, q2, q3, q4, q5⟩ := HDx.out.cells
          simp only at q0 q1 q2 q3 q4 q5
          obtain ⟨z, hz⟩ : ∃ z, (frm nme F).1 = z := ⟨_, rfl⟩
          obtain ⟨ok, hok⟩ : ∃ ok, (frm nme F).2 = ok := ⟨_, rfl⟩
          rw [hz, hok] at HVL
          rw [hz, hok] at HFm
          clear hz hok
          go_wp2_with fail
          refine HFm.out.mono ?_
          rintro e w1 ⟨rfl, rfl⟩
          go_upto_region 29 with fail
          have HD9 := hide ((HDx.out.words z).bad (!ok))
          have HR9 := hide ((HRx.out.other (k := w.heap.size + 1) (j := 4) (.int .i64 z) (by omega)).other (k := w.heap.size + 1) (j := 5) (.bool (!ok)) (by omega))
          have HO9 := hide (own_set (own_set HOx.out HDx.out (j := 4) (.int .i64 z)) (HDx.out.words z) (j := 5) (.bool (!ok)))
          have HB9 := hide ((HBx.out.setCell (p := ⟨w.heap.size + 1, 4, none⟩) (by simp) (.int .i64 z)).setCell (p := ⟨w.heap.size + 1, 5, none⟩) (by simp) (.bool (!ok)))
          clear frg q0 q1 q2 q3 q4 q5 HFm HDx HRx HOx HBx
          generalize (w1.setCell ⟨w.heap.size + 1, 4, none⟩ (.int .i64 z)).setCell ⟨w.heap.size + 1, 5, none⟩ (.bool (!ok)) = Y at *
          have fr := fun j => HR9.out.frz j
          obtain ⟨r0, r1, r2, r3, r4, r5⟩ := HR9.out.cells
          obtain ⟨q0, q1, q2, q3, q4, q5⟩ := HD9.out.cells
          have HS := hide (dl_sets HR9.out (⟨[], false, nme, F, z, !ok⟩ : Dl) fo c)
          simp only at q0 q1 q2 q3 q4 q5 HS
          go_wp2
          refine bodyPost_ret (results_cell_row rfl _ _ w.heap.size 42 (dlL (⟨[], false, nme, F, z, !ok⟩ : Dl) fo c).toArray (0, 0) _ rfl HS.out Tryd.underlying42 rfl info_dl) rfl ?_
          exact ⟨fo, c, by rw [HVL.out] <;> rfl, by rw [HVL.out]; exact own_six HO9.out HR9.out, six HB9.out (Nat.le_refl _)⟩
end
end Go.Proofs.YtbfagiofhakjnaaDoor

namespace Go.Proofs.YtbfagiofhakjnaaDoor
open Go.RowKit
section
variable (w : World)
set_option maxRecDepth 100000 in
set_option maxHeartbeats 4000000 in
theorem parsed_sn (s : Tx) (a9 b9 : Tx) (hl : s.length ≤ 16384) (hNm : Nms w) (h59 : cutT [59] s = some (a9, b9)) (h58 : cutT [58] (trimT a9) = none) : Calls Tryd.prog 12 #[.string ⟨s.toArray⟩] w fun e w' => ∃ fo c, e = .returned (.agg (dlL (lineD s) fo c).toArray) ∧ w'.ownsRow w.heap.size 9 1 (.slice fo (lineD s).fields.length c) (lineD s).fields.length (strs (lineD s).fields) ∧ Below w.heap.size w w' := by
  have HV : Hid (lineD s = stD (trimT a9)) := hide (by unfold lineD; rw [h59]; simp only [Option.getD_some]; rw [h58])
  have HF := hide (fun W => find_any W s 59 hl)
  rw [fnd_some h59] at HF
  have hs9 := cut_split h59
  have e9 : (⟨s.toArray⟩ : ByteArray).extract 0 a9.length = ⟨a9.toArray⟩ := by rw [hs9]; exact ext_fst _ _ _
  have hk9 : a9.length ≤ s.length := by rw [hs9]; simp
  have hk9I : (a9.length : Int) ≤ (s.length : Int) := by omega
  clear hs9
  have hl9 : a9.length ≤ 16384 := by omega
  have HTm := hide (fun W => trimmed_any W a9 hl9)
  have htl : (trimT a9).length ≤ 16384 := by have := trimT_len a9; omega
  have HG := hide (fun W => find_any W (trimT a9) 58 htl)
  rw [fnd_none h58] at HG
  generalize lineD s = L at *
  generalize trimT a9 = t at *
  have HB : Hid (Below w.heap.size w ((w.alloc (.cells (dlL dl0 none 0).toArray 42)).alloc (.cells (dlL dl0 none 0).toArray 42))) := hide ((bel1 w _).alloc (by simp) _)
  have HR : Hid (DlA ((w.alloc (.cells (dlL dl0 none 0).toArray 42)).alloc (.cells (dlL dl0 none 0).toArray 42)) w.heap.size dl0 none 0) := hide (DlA.keep (w := w.alloc (.cells (dlL dl0 none 0).toArray 42)) (heap_alloc_last _ _) (bel1 _ _))
  have HD : Hid (DlA ((w.alloc (.cells (dlL dl0 none 0).toArray 42)).alloc (.cells (dlL dl0 none 0).toArray 42)) (w.heap.size + 1) dl0 none 0) := hide (by have := heap_alloc_last (w.alloc (.cells (dlL dl0 none 0).toArray 42)) (.cells (dlL dl0 none 0).toArray 42); rw [World.size_alloc] at this; exact this)
  have HNm := hide hNm
  clear h59 h58 hl hNm
  go_enter Tryd.func12, Tryd.ntmps12
  go_wp2_with fail
  refine (HF.out _).mono ?_
  rintro e w1 ⟨rfl, rfl⟩
  go_wp2_with fail
  refine (HTm.out _).mono ?_
  rintro e w1 ⟨rfl, rfl⟩
  go_wp2_with fail
  refine (HG.out _).mono ?_
  rintro e w1 ⟨rfl, rfl⟩
  simp only [dlL, dl0] at HB HR HD
  generalize (w.alloc (.cells #[.string ⟨#[]⟩, .bool false, .string ⟨#[]⟩, .slice none 0 0, .int .i64 0, .bool false] 42)).alloc (.cells #[.string ⟨#[]⟩, .bool false, .string ⟨#[]⟩, .slice none 0 0, .int .i64 0, .bool false] 42) = W at *
  obtain ⟨u, hu⟩ : ∃ u, u = t := ⟨_, rfl⟩
  subst hu
  have hul := htl
  clear htl
  clear HF HTm HG
  rcases u with _ | ⟨x0, u0⟩
  · have fr := fun j => HR.out.frz j
    obtain ⟨r0, r1, r2, r3, r4, r5⟩ := HR.out.cells
    obtain ⟨q0, q1, q2, q3, q4, q5⟩ := HD.out.cells
    have HS := hide (dl_sets HR.out (⟨[], false, [], [], 0, false⟩ : Dl) none 0)
    go_wp2
    refine bodyPost_ret (results_cell_row rfl _ _ w.heap.size 42 (dlL (⟨[], false, [], [], 0, false⟩ : Dl) none 0).toArray (0, 0) _ rfl HS.out Tryd.underlying42 rfl info_dl) rfl ?_
    exact ⟨none, 0, by rw [HV.out] <;> rfl, by rw [HV.out]; exact own_six (World.ownsRow_nil _ _ _ _) HR.out, six HB.out (Nat.le_refl _)⟩
  · have hne : x0 :: u0 ≠ [] := by simp
    go_upto_region 16 with fail
    generalize x0 :: u0 = u at *
    go_loopw [5] (fun v wr => ∃ i : Nat, v = .int .i64 (i : Int) ∧ i ≤ u.length ∧ Hid (∀ j (hj : j < u.length), j < i → ([32, 9] : Tx).contains u[j] = false) ∧ wr = W) (fun v _ => u.length - (intOf v).toNat)
    case atStart => exact ⟨0, rfl, by omega, hide (fun j _ h => by omega), rfl⟩
    case round =>
    obtain ⟨i, rfl, hi, HNo, hWr⟩ := hrel
    subst hWr
    go_upto_region 16 with fail
    go_cut [59] from 44 to 61 (fun v wx => v = .bool (cnB u i) ∧ wx = wr)
    case first =>
      by_cases hlt : i < u.length
      · have hltI : (i : Int) < (u.length : Int) := by omega
        obtain ⟨d, hd⟩ : ∃ d, u[i] = d := ⟨_, rfl⟩
        have hg : (⟨u.toArray⟩ : ByteArray)[i]'hlt = d := hd
        have HC := hide (cn_at hlt hd)
        rw [bl_or] at HC
        clear HNo
        by_cases h32 : (d.toNat : Int) = 32
        · have hb : ((d.toNat : Int) == 32) = true := by rw [beq_iff_eq]; exact h32
          have hbn : ((d.toNat : Int) != 32) = false := by unfold bne; rw [hb]; rfl
          rw [hb] at HC
          clear h32
          go_wp2_with fail
          go_meet
          case rel => exact ⟨by rw [HC.out] <;> rfl, rfl⟩
        · have hb : ((d.toNat : Int) == 32) = false := by rw [beq_eq_false_iff_ne]; exact h32
          have hbn : ((d.toNat : Int) != 32) = true := by unfold bne; rw [hb]; rfl
          by_cases h9 : (d.toNat : Int) = 9
          · have hb9 : ((d.toNat : Int) == 9) = true := by rw [beq_iff_eq]; exact h9
            have hb9n : ((d.toNat : Int) != 9) = false := by unfold bne; rw [hb9]; rfl
            rw [hb, hb9] at HC
            clear h32 h9
            go_wp2_with fail
            go_meet
            case rel => exact ⟨by rw [HC.out] <;> rfl, rfl⟩
          · have hb9 : ((d.toNat : Int) == 9) = false := by rw [beq_eq_false_iff_ne]; exact h9
            have hb9n : ((d.toNat : Int) != 9) = true := by unfold bne; rw [hb9]; rfl
            rw [hb, hb9] at HC
            clear h32 h9
            go_wp2_with fail
            go_meet
            case rel => exact ⟨by rw [HC.out] <;> rfl, rfl⟩
      · have hltI : ¬ (i : Int) < (u.length : Int) := by omega
        have HC := hide (cn_end hlt)
        clear HNo
        go_wp2_with fail
        go_meet
        case rel => exact ⟨by rw [HC.out] <;> rfl, rfl⟩
    case rest =>
    obtain ⟨hv, hw⟩ := hcut
    subst hv
    subst hw
    cases hcn : cnB u i with
    | true =>
      have hlt : i < u.length := by by_cases h : i < u.length; exact h; rw [cn_end h] at hcn; cases hcn
      have HN2 : Hid (∀ j (hj : j < u.length), j < i + 1 → ([32, 9] : Tx).contains u[j] = false) := hide (fun j hj h => by
        by_cases e : j = i
        · subst e; have := cn_at hj rfl; rw [hcn] at this; simpa using this.symm
        · exact HNo.out j hj (by omega))
      clear HNo
      go_wp2
      refine ⟨⟨i + 1, by simp, by omega, HN2, trivial⟩, ?_⟩
      simp [intOf]
      omega
    | false =>
      have HSt := hide (fun F hF => stD_eq (F := F) hne hi HNo.out hcn hF)
      clear HNo hcn hne
      have e3 : (⟨u.toArray⟩ : ByteArray).extract 0 i = ⟨(u.take i).toArray⟩ := by rw [ext_mk]; simp
      have e4 : (⟨u.toArray⟩ : ByteArray).extract i u.length = ⟨(u.drop i).toArray⟩ := by rw [ext_mk]; simp
      have hiI : (i : Int) ≤ (u.length : Int) := by omega
      have hdl : (u.drop i).length ≤ 16384 := by simp; omega
      have HTr := hide (fun W => trimmed_any W (u.drop i) hdl)
      have hRl : (trimT (u.drop i)).length ≤ 16384 := by have := trimT_len (u.drop i); omega
      obtain ⟨R, hR⟩ : ∃ R, trimT (u.drop i) = R := ⟨_, rfl⟩
      rw [hR] at HSt HTr hRl
      clear hR
      generalize u.drop i = dr at *
      generalize u.take i = nme at *
      have frg := fun j => HD.out.frz j
      obtain ⟨q0, q1, q2, q3, q4, q5⟩ := HD.out.cells
      simp only at q0 q1 q2 q3 q4 q5
      go_wp2_with fail
      refine (HTr.out _).mono ?_
      rintro e w1 ⟨rfl, rfl⟩
      have HD2 := hide (HD.out.name nme)
      have HR2 := hide (HR.out.other (k := w.heap.size + 1) (j := 2) (.string ⟨nme.toArray⟩) (by omega))
      have HB2 := hide (HB.out.setCell (p := ⟨w.heap.size + 1, 2, none⟩) (by simp) (.string ⟨nme.toArray⟩))
      clear frg q0 q1 q2 q3 q4 q5 HTr HD HR HB
      generalize wc.setCell ⟨w.heap.size + 1, 2, none⟩ (.string ⟨nme.toArray⟩) = W2 at *
      rcases R with _ | ⟨y0, R0⟩
      · have HVL : Hid (L = ⟨[], false, nme, [], (frm nme []).1, !(frm nme []).2⟩) := hide (by rw [HV.out, HSt.out [] rfl])
        have HOx := hide (World.ownsRow_nil W2 w.heap.size 9 1)
        have hFf : ∀ f ∈ ([] : List Tx), f.length ≤ 16384 := by simp
        have hFl : ([] : List Tx).length ≤ 16385 := by simp
        have HBx := HB2
        have HRx := HR2
        have HDx := HD2
        clear HB2 HR2 HD2 HSt HV
        have HFm := hide (formed_any W2 nme none 0 [] hFf hFl (own_SR HOx.out) (HNm.out.below HBx.out))
        have frg := fun j => HDx.out.frz j
        obtain ⟨q0, q1, q2, q3, q4, q5⟩ := HDx.out.cells
        simp only at q0 q1 q2 q3 q4 q5
        obtain ⟨z, hz⟩ : ∃ z, (frm nme []).1 = z := ⟨_, rfl⟩
        obtain ⟨ok, hok⟩ : ∃ ok, (frm nme []).2 = ok := ⟨_, rfl⟩
        rw [hz, hok] at HVL
        rw [hz, hok] at HFm
        clear hz hok
        go_wp2_with fail
        refine HFm.out.mono ?_
        rintro e w1 ⟨rfl, rfl⟩
        go_upto_region 29 with fail
        have HD9 := hide ((HDx.out.words z).bad (!ok))
        have HR9 := hide ((HRx.out.other (k := w.heap.size + 1) (j := 4) (.int .i64 z) (by omega)).other (k := w.heap.size + 1) (j := 5) (.bool (!ok)) (by omega))
        have HO9 := hide (own_set (own_set HOx.out HDx.out (j := 4) (.int .i64 z)) (HDx.out.words z) (j := 5) (.bool (!ok)))
        have HB9 := hide ((HBx.out.setCell (p := ⟨w.heap.size + 1, 4, none⟩) (by simp) (.int .i64 z)).setCell (p := ⟨w.heap.size + 1, 5, none⟩) (by simp) (.bool (!ok)))
        clear frg q0 q1 q2 q3 q4 q5 HFm HDx HRx HOx HBx
        generalize (w1.setCell ⟨w.heap.size + 1, 4, none⟩ (.int .i64 z)).setCell ⟨w.heap.size + 1, 5, none⟩ (.bool (!ok)) = Y at *
        have fr := fun j => HR9.out.frz j
        obtain ⟨r0, r1, r2, r3, r4, r5⟩ := HR9.out.cells
        obtain ⟨q0, q1, q2, q3, q4, q5⟩ := HD9.out.cells
        have HS := hide (dl_sets HR9.out (⟨[], false, nme, [], z, !ok⟩ : Dl) none 0)
        simp only at q0 q1 q2 q3 q4 q5 HS
        go_wp2
        refine bodyPost_ret (results_cell_row rfl _ _ w.heap.size 42 (dlL (⟨[], false, nme, [], z, !ok⟩ : Dl) none 0).toArray (0, 0) _ rfl HS.out Tryd.underlying42 rfl info_dl) rfl ?_
        exact ⟨none, 0, by rw [HVL.out] <;> rfl, by rw [HVL.out]; exact own_six HO9.out HR9.out, six HB9.out (Nat.le_refl _)⟩
      · have hRn : y0 :: R0 ≠ [] := by simp
        have HVL0 : Hid (∀ F, F = (splitT 44 (y0 :: R0)).map trimT → L = ⟨[], false, nme, F, (frm nme F).1, !(frm nme F).2⟩) := hide (fun F hF => by rw [HV.out, HSt.out F (by rw [if_neg hRn]; exact hF)])
        have HPc := hide (fun W => pieces_any W (y0 :: R0) 44 hRl)
        have hcnt := split_count 44 (y0 :: R0)
        have HPl : Hid (∀ p ∈ splitT 44 (y0 :: R0), p.length ≤ 16384) := hide (fun p hp => by have := split_len 44 (y0 :: R0) p hp; omega)
        clear HSt HV hRn
        go_wp2_with fail
        refine (HPc.out _).mono ?_
        rintro e w3 ⟨v, rfl, ho3, hb3⟩
        obtain ⟨ap, cp, rfl⟩ := own_shape ho3
        have HSp := hide (own_SR ho3)
        have HNg : Hid (∀ x, ap = some x → x.block ≠ w.heap.size + 1) := hide (fun x hx => by subst hx; have := (ho3.lt x.block rfl).1; have := HD2.out.lt; omega)
        have HD3 := hide (HD2.out.keep hb3)
        have HR3 := hide (HR2.out.keep hb3)
        have HB3 := hide (HB2.out.trans (hb3.mono HB2.out.size))
        have hs3 := hb3.size
        have hg3 := HD2.out.lt
        clear ho3 hb3 HD2 HR2 HB2 HPc
        generalize hps : splitT 44 (y0 :: R0) = ps at *
        clear hps
        have hcn2 : ps.length ≤ 16385 := by simp only [List.length_cons] at hcnt hRl; omega
        clear hcnt
        obtain ⟨i9, hi9, hz9, hsz9, hb9⟩ := info_str
        go_upto_region 23 with fail
        go_loopw [8] (fun v wr => ∃ (j : Nat) (fo : Option Addr) (c : Nat), v = .int .i64 (j : Int) ∧ j ≤ ps.length ∧ Hid (wr.ownsRow w3.heap.size 9 1 (.slice fo j c) j (strs ((ps.take j).map trimT))) ∧ Hid (DlA wr (w.heap.size + 1) (⟨[], false, nme, (ps.take j).map trimT, 0, false⟩ : Dl) fo c) ∧ Hid (Kp (w.heap.size + 1) w3 wr)) (fun v _ => ps.length - (intOf v).toNat)
        case atStart => exact ⟨0, none, 0, rfl, by omega, hide (World.ownsRow_nil _ _ _ _), HD3, hide (Kp.refl _ _)⟩
        case round =>
        obtain ⟨j, fo, c, rfl, hj, HOw, HDw, HKw⟩ := hrel
        by_cases hlt : j < ps.length
        · have hltI : (j : Int) < (ps.length : Int) := by omega
          obtain ⟨x, hx, cx⟩ := HSp.out j hlt
          subst hx
          have hxb := HNg.out x rfl
          have hjl : ((ps.take j).map trimT).length = j := by simp; omega
          have HE : Hid ((ps.take (j + 1)).map trimT = (ps.take j).map trimT ++ [trimT ps[j]]) := hide (by rw [List.take_succ_eq_append_getElem hlt, List.map_append]; rfl)
          have HTr := hide (fun W => (trimmed_sym W ps[j] (HPl.out _ (List.getElem_mem hlt))))
          generalize ps[j] = p at *
          go_upto_region 25 with fail
          have hcx := HKw.out.cl cx (by rw [add_blk]; exact hxb)
          obtain ⟨wd, hwd⟩ : ∃ wd, wd = wr.drew := ⟨_, rfl⟩
          have HOd : Hid (wd.ownsRow w3.heap.size 9 1 (.slice fo j c) j (strs ((ps.take j).map trimT))) := by rw [hwd]; exact hide HOw.out
          have HDd : Hid (DlA wd (w.heap.size + 1) (⟨[], false, nme, (ps.take j).map trimT, 0, false⟩ : Dl) fo c) := by rw [hwd]; exact hide HDw.out
          have HKd : Hid (Kp (w.heap.size + 1) w3 wd) := by rw [hwd]; exact hide HKw.out.drew
          have HSd : Hid (wd.cell? (x.add j) = some (.string ⟨p.toArray⟩)) := by rw [hwd]; exact hide hcx
          refine wp_region_held_drew (S := fun W => W.cell? (x.add j) = some (.string ⟨p.toArray⟩)) (by kernel_rfl) (by rw [← hwd]; exact HSd.out) (fun hHeld => ?_)
          rw [← hwd]
          have cxK := hide cx
          clear hwd hHeld hcx cx HOw HDw HKw
          obtain ⟨-, -, -, q3, -, -⟩ := HDd.out.cells
          simp only [hjl] at q3
          refine hd_take 0 (o := ⟨some 80, _, _, _, _, _⟩) (.pointer (some ⟨w.heap.size + 1, 3, none⟩)) (by kernel_rfl) (by kernel_rfl) (by kernel_rfl) rfl (by rfl) (fun W hSw => by go_simp) (fun _ _ _ h => h) HSd.out ?_
          simp only [Act.put, List.setIfInBounds_toArray, List.set_cons_zero, List.set_cons_succ]
          refine hd_take 2 (o := ⟨some 82, _, _, _, _, _⟩) (.slice (some x) ps.length cp) (by kernel_rfl) (by kernel_rfl) (by kernel_rfl) rfl (by rfl) (fun W hSw => by go_simp) (fun _ _ _ h => h) HSd.out ?_
          simp only [Act.put, List.setIfInBounds_toArray, List.set_cons_zero, List.set_cons_succ]
          refine hd_take 3 (o := ⟨some 83, _, _, _, _, _⟩) (.int .i64 (j : Int)) (by kernel_rfl) (by kernel_rfl) (by kernel_rfl) rfl (by rfl) (fun W hSw => by go_simp) (fun _ _ _ h => h) HSd.out ?_
          simp only [Act.put, List.setIfInBounds_toArray, List.set_cons_zero, List.set_cons_succ]
          refine hd_take 4 (o := ⟨some 84, _, _, _, _, _⟩) (.pointer (some (x.add j))) (by kernel_rfl) (by kernel_rfl) (by kernel_rfl) rfl (by rfl) (fun W hSw => by go_simp) (fun _ _ _ h => h) HSd.out ?_
          simp only [Act.put, List.setIfInBounds_toArray, List.set_cons_zero, List.set_cons_succ]
          refine hd_take 5 (o := ⟨some 85, _, _, _, _, _⟩) (.string ⟨p.toArray⟩) (by kernel_rfl) (by kernel_rfl) (by kernel_rfl) rfl (by rfl) (fun W hSw => by go_simp) (fun _ _ _ h => h) HSd.out ?_
          simp only [Act.put, List.setIfInBounds_toArray, List.set_cons_zero, List.set_cons_succ]
          refine hd_both 1 6 (o1 := ⟨some 81, _, _, _, _, _⟩) (o2 := ⟨some 86, _, _, _, _, _⟩) (by kernel_rfl) rfl rfl (by rfl) (by rfl) (fun K' hK => ?_) (fun K' hK => ?_)
          · skip
            go_simp
            refine hK _ _ HSd.out ?_
            clear hK K'
            try simp only [Act.put, List.setIfInBounds_toArray, List.set_cons_zero, List.set_cons_succ]
            refine hd_call 6 (o := ⟨some 86, _, _, _, _, _⟩) (by kernel_rfl) rfl (by rfl) (fun K' hK => ?_)
            go_simp
            go_wp2_with (go_at_call 19; refine (HTr.out _).mono ?_; rintro e1 w9 ⟨rfl, hw9⟩; subst hw9)
            refine hK _ _ HSd.out ?_
            clear hK K'
            try simp only [Act.put, List.setIfInBounds_toArray, List.set_cons_zero, List.set_cons_succ]
            refine hd_call 7 (o := ⟨some 87, _, _, _, _, _⟩) (by kernel_rfl) rfl (by rfl) (fun K' hK => ?_)
            have HSe : Hid ((wd.alloc (.cells #[.string ⟨(trimT p).toArray⟩] 9)).cell? (x.add j) = some (.string ⟨p.toArray⟩)) := hide (by rw [World.cell?_alloc_lt _ _ _ (cell_blk HSd.out)]; exact HSd.out)
            have q3e : (wd.alloc (.cells #[.string ⟨(trimT p).toArray⟩] 9)).cell? ⟨w.heap.size + 1, 3, none⟩ = some (.slice fo j c) := by rw [World.cell?_alloc_lt _ _ _ (cell_blk q3)]; exact q3
            go_simp
            refine hK _ _ HSe.out ?_
            clear hK K'
            try simp only [Act.put, List.setIfInBounds_toArray, List.set_cons_zero, List.set_cons_succ]
            refine hd_call 8 (o := ⟨some 88, _, _, _, _, _⟩) (by kernel_rfl) rfl (by rfl) (fun K' hK => ?_)
            refine wp_append_own _ _ _ 38 rfl w3.heap.size 9 i9 (.string ⟨#[]⟩) 1 16 Tryd.underlying38 hi9 hz9 hsz9 hb9 rfl (by decide) (.slice fo j c) j _ rfl (HOd.out.alloc _) ⟨_, 0, none⟩ 1 1 [.string ⟨(trimT p).toArray⟩] rfl rfl (cell_one_new _ _ _) (by simp [Value.oneCell']) (by unfold maxLen; omega) (by omega) (by have := HKd.out.size; simp; omega) ?_
            intro v4 w4 ho4 hg4 _
            obtain ⟨a4, c4, rfl⟩ := own_shape ho4
            have hDa : DlA (wd.alloc (.cells #[.string ⟨(trimT p).toArray⟩] 9)) (w.heap.size + 1) (⟨[], false, nme, (ps.take j).map trimT, 0, false⟩ : Dl) fo c := HDd.out.keep (bel1 _ _)
            have HD4 := hide (hDa.grown (HOd.out.alloc _) hg4)
            have HK4 := hide ((HKd.out.alloc (.cells #[.string ⟨(trimT p).toArray⟩] 9)).grown hg4 (fun k hk => (HOd.out.lt k hk).1))
            have HO4 := hide ho4
            have HS4 := hide (HK4.out.cl cxK.out (by rw [add_blk]; exact hxb))
            clear ho4 hg4 hDa
            refine hK _ _ HS4.out ?_
            clear hK K'
            try simp only [Act.put, List.setIfInBounds_toArray, List.set_cons_zero, List.set_cons_succ]
            refine hd_take 9 (o := ⟨some 89, _, _, _, _, _⟩) (.pointer (some ⟨w.heap.size + 1, 3, none⟩)) (by kernel_rfl) (by kernel_rfl) (by kernel_rfl) rfl (by rfl) (fun W hSw => by go_simp) (fun _ _ _ h => h) HS4.out ?_
            simp only [Act.put, List.setIfInBounds_toArray, List.set_cons_zero, List.set_cons_succ]
            have HD5 := hide (HD4.out.fields ((ps.take j).map trimT ++ [trimT p]) a4 c4 (j + 1) (by simp; omega))
            have HK5 := hide (HK4.out.set (j := 3) (.slice a4 (j + 1) c4))
            have HO5 := hide (own_set HO4.out HD4.out (j := 3) (.slice a4 (j + 1) c4))
            have HS5 := hide (HK5.out.cl cxK.out (by rw [add_blk]; exact hxb))
            obtain ⟨-, -, -, q34, -, -⟩ := HD4.out.cells
            have fr4 := HD4.out.frz 3
            refine hd_call 10 (o := ⟨none, _, _, _, _, _⟩) (by kernel_rfl) rfl (by rfl) (fun K' hK => ?_)
            go_simp
            refine hK _ _ HS5.out ?_
            clear hK K'
            try simp only [Act.put, List.setIfInBounds_toArray, List.set_cons_zero, List.set_cons_succ]
            refine wpAnyH_done (by kernel_rfl) ?_ _
            clear q34 fr4 HD4 HK4 HO4 HS4
            go_wp2
            refine ⟨⟨j + 1, a4, c4, by simp, by omega, hide (by rw [HE.out]; simpa [strs] using HO5.out), hide (by rw [HE.out]; exact HD5.out), HK5⟩, ?_⟩
            simp [intOf]
            omega
          · skip
            go_simp
            go_wp2_with (go_at_call 19; refine (HTr.out _).mono ?_; rintro e1 w9 ⟨rfl, hw9⟩; subst hw9)
            refine hK _ _ HSd.out ?_
            clear hK K'
            try simp only [Act.put, List.setIfInBounds_toArray, List.set_cons_zero, List.set_cons_succ]
            refine hd_both 1 7 (o1 := ⟨some 81, _, _, _, _, _⟩) (o2 := ⟨some 87, _, _, _, _, _⟩) (by kernel_rfl) rfl rfl (by rfl) (by rfl) (fun K' hK => ?_) (fun K' hK => ?_)
            · skip
              go_simp
              refine hK _ _ HSd.out ?_
              clear hK K'
              try simp only [Act.put, List.setIfInBounds_toArray, List.set_cons_zero, List.set_cons_succ]
              refine hd_call 7 (o := ⟨some 87, _, _, _, _, _⟩) (by kernel_rfl) rfl (by rfl) (fun K' hK => ?_)
              have HSe : Hid ((wd.alloc (.cells #[.string ⟨(trimT p).toArray⟩] 9)).cell? (x.add j) = some (.string ⟨p.toArray⟩)) := hide (by rw [World.cell?_alloc_lt _ _ _ (cell_blk HSd.out)]; exact HSd.out)
              have q3e : (wd.alloc (.cells #[.string ⟨(trimT p).toArray⟩] 9)).cell? ⟨w.heap.size + 1, 3, none⟩ = some (.slice fo j c) := by rw [World.cell?_alloc_lt _ _ _ (cell_blk q3)]; exact q3
              go_simp
              refine hK _ _ HSe.out ?_
              clear hK K'
              try simp only [Act.put, List.setIfInBounds_toArray, List.set_cons_zero, List.set_cons_succ]
              refine hd_call 8 (o := ⟨some 88, _, _, _, _, _⟩) (by kernel_rfl) rfl (by rfl) (fun K' hK => ?_)
              refine wp_append_own _ _ _ 38 rfl w3.heap.size 9 i9 (.string ⟨#[]⟩) 1 16 Tryd.underlying38 hi9 hz9 hsz9 hb9 rfl (by decide) (.slice fo j c) j _ rfl (HOd.out.alloc _) ⟨_, 0, none⟩ 1 1 [.string ⟨(trimT p).toArray⟩] rfl rfl (cell_one_new _ _ _) (by simp [Value.oneCell']) (by unfold maxLen; omega) (by omega) (by have := HKd.out.size; simp; omega) ?_
              intro v4 w4 ho4 hg4 _
              obtain ⟨a4, c4, rfl⟩ := own_shape ho4
              have hDa : DlA (wd.alloc (.cells #[.string ⟨(trimT p).toArray⟩] 9)) (w.heap.size + 1) (⟨[], false, nme, (ps.take j).map trimT, 0, false⟩ : Dl) fo c := HDd.out.keep (bel1 _ _)
              have HD4 := hide (hDa.grown (HOd.out.alloc _) hg4)
              have HK4 := hide ((HKd.out.alloc (.cells #[.string ⟨(trimT p).toArray⟩] 9)).grown hg4 (fun k hk => (HOd.out.lt k hk).1))
              have HO4 := hide ho4
              have HS4 := hide (HK4.out.cl cxK.out (by rw [add_blk]; exact hxb))
              clear ho4 hg4 hDa
              refine hK _ _ HS4.out ?_
              clear hK K'
              try simp only [Act.put, List.setIfInBounds_toArray, List.set_cons_zero, List.set_cons_succ]
              refine hd_take 9 (o := ⟨some 89, _, _, _, _, _⟩) (.pointer (some ⟨w.heap.size + 1, 3, none⟩)) (by kernel_rfl) (by kernel_rfl) (by kernel_rfl) rfl (by rfl) (fun W hSw => by go_simp) (fun _ _ _ h => h) HS4.out ?_
              simp only [Act.put, List.setIfInBounds_toArray, List.set_cons_zero, List.set_cons_succ]
              have HD5 := hide (HD4.out.fields ((ps.take j).map trimT ++ [trimT p]) a4 c4 (j + 1) (by simp; omega))
              have HK5 := hide (HK4.out.set (j := 3) (.slice a4 (j + 1) c4))
              have HO5 := hide (own_set HO4.out HD4.out (j := 3) (.slice a4 (j + 1) c4))
              have HS5 := hide (HK5.out.cl cxK.out (by rw [add_blk]; exact hxb))
              obtain ⟨-, -, -, q34, -, -⟩ := HD4.out.cells
              have fr4 := HD4.out.frz 3
              refine hd_call 10 (o := ⟨none, _, _, _, _, _⟩) (by kernel_rfl) rfl (by rfl) (fun K' hK => ?_)
              go_simp
              refine hK _ _ HS5.out ?_
              clear hK K'
              try simp only [Act.put, List.setIfInBounds_toArray, List.set_cons_zero, List.set_cons_succ]
              refine wpAnyH_done (by kernel_rfl) ?_ _
              clear q34 fr4 HD4 HK4 HO4 HS4
              go_wp2
              refine ⟨⟨j + 1, a4, c4, by simp, by omega, hide (by rw [HE.out]; simpa [strs] using HO5.out), hide (by rw [HE.out]; exact HD5.out), HK5⟩, ?_⟩
              simp [intOf]
              omega
            · skip
              have HSe : Hid ((wd.alloc (.cells #[.string ⟨(trimT p).toArray⟩] 9)).cell? (x.add j) = some (.string ⟨p.toArray⟩)) := hide (by rw [World.cell?_alloc_lt _ _ _ (cell_blk HSd.out)]; exact HSd.out)
              have q3e : (wd.alloc (.cells #[.string ⟨(trimT p).toArray⟩] 9)).cell? ⟨w.heap.size + 1, 3, none⟩ = some (.slice fo j c) := by rw [World.cell?_alloc_lt _ _ _ (cell_blk q3)]; exact q3
              go_simp
              refine hK _ _ HSe.out ?_
              clear hK K'
              try simp only [Act.put, List.setIfInBounds_toArray, List.set_cons_zero, List.set_cons_succ]
              refine hd_call 1 (o := ⟨some 81, _, _, _, _, _⟩) (by kernel_rfl) rfl (by rfl) (fun K' hK => ?_)
              go_simp
              refine hK _ _ HSe.out ?_
              clear hK K'
              try simp only [Act.put, List.setIfInBounds_toArray, List.set_cons_zero, List.set_cons_succ]
              refine hd_call 8 (o := ⟨some 88, _, _, _, _, _⟩) (by kernel_rfl) rfl (by rfl) (fun K' hK => ?_)
              refine wp_append_own _ _ _ 38 rfl w3.heap.size 9 i9 (.string ⟨#[]⟩) 1 16 Tryd.underlying38 hi9 hz9 hsz9 hb9 rfl (by decide) (.slice fo j c) j _ rfl (HOd.out.alloc _) ⟨_, 0, none⟩ 1 1 [.string ⟨(trimT p).toArray⟩] rfl rfl (cell_one_new _ _ _) (by simp [Value.oneCell']) (by unfold maxLen; omega) (by omega) (by have := HKd.out.size; simp; omega) ?_
              intro v4 w4 ho4 hg4 _
              obtain ⟨a4, c4, rfl⟩ := own_shape ho4
              have hDa : DlA (wd.alloc (.cells #[.string ⟨(trimT p).toArray⟩] 9)) (w.heap.size + 1) (⟨[], false, nme, (ps.take j).map trimT, 0, false⟩ : Dl) fo c := HDd.out.keep (bel1 _ _)
              have HD4 := hide (hDa.grown (HOd.out.alloc _) hg4)
              have HK4 := hide ((HKd.out.alloc (.cells #[.string ⟨(trimT p).toArray⟩] 9)).grown hg4 (fun k hk => (HOd.out.lt k hk).1))
              have HO4 := hide ho4
              have HS4 := hide (HK4.out.cl cxK.out (by rw [add_blk]; exact hxb))
              clear ho4 hg4 hDa
              refine hK _ _ HS4.out ?_
              clear hK K'
              try simp only [Act.put, List.setIfInBounds_toArray, List.set_cons_zero, List.set_cons_succ]
              refine hd_take 9 (o := ⟨some 89, _, _, _, _, _⟩) (.pointer (some ⟨w.heap.size + 1, 3, none⟩)) (by kernel_rfl) (by kernel_rfl) (by kernel_rfl) rfl (by rfl) (fun W hSw => by go_simp) (fun _ _ _ h => h) HS4.out ?_
              simp only [Act.put, List.setIfInBounds_toArray, List.set_cons_zero, List.set_cons_succ]
              have HD5 := hide (HD4.out.fields ((ps.take j).map trimT ++ [trimT p]) a4 c4 (j + 1) (by simp; omega))
              have HK5 := hide (HK4.out.set (j := 3) (.slice a4 (j + 1) c4))
              have HO5 := hide (own_set HO4.out HD4.out (j := 3) (.slice a4 (j + 1) c4))
              have HS5 := hide (HK5.out.cl cxK.out (by rw [add_blk]; exact hxb))
              obtain ⟨-, -, -, q34, -, -⟩ := HD4.out.cells
              have fr4 := HD4.out.frz 3
              refine hd_call 10 (o := ⟨none, _, _, _, _, _⟩) (by kernel_rfl) rfl (by rfl) (fun K' hK => ?_)
              go_simp
              refine hK _ _ HS5.out ?_
              clear hK K'
              try simp only [Act.put, List.setIfInBounds_toArray, List.set_cons_zero, List.set_cons_succ]
              refine wpAnyH_done (by kernel_rfl) ?_ _
              clear q34 fr4 HD4 HK4 HO4 HS4
              go_wp2
              refine ⟨⟨j + 1, a4, c4, by simp, by omega, hide (by rw [HE.out]; simpa [strs] using HO5.out), hide (by rw [HE.out]; exact HD5.out), HK5⟩, ?_⟩
              simp [intOf]
              omega
        · have ej : j = ps.length := by omega
          have hltI : ¬ (j : Int) < (ps.length : Int) := by omega
          subst ej
          rw [List.take_length] at HOw HDw
          obtain ⟨F, hF⟩ : ∃ F, F = ps.map trimT := ⟨_, rfl⟩
          have hFn : F.length = ps.length := by rw [hF]; simp
          have HVL := hide (HVL0.out F hF)
          have hFf : ∀ f ∈ F, f.length ≤ 16384 := by rw [hF]; intro f hf; obtain ⟨p, hp, rfl⟩ := List.mem_map.1 hf; have := HPl.out p hp; have := trimT_len p; omega
          have hFl : F.length ≤ 16385 := by omega
          rw [← hF] at HOw HDw
          rw [← hFn] at HOw hltI ⊢
          have HOx := hide (own_base HOw.out (show w.heap.size ≤ w3.heap.size by omega))
          have HBx := hide (Kp.below HB3.out HKw.out (by omega) (by omega))
          have HRx := hide (HKw.out.dl HR3.out (by omega))
          have HDx := HDw
          clear HVL0 HPl HSp HNg HD3 HR3 HB3 HKw HOw HDw hF hFn
          have HFm := hide (formed_any wr nme fo c F hFf hFl (own_SR HOx.out) (HNm.out.below HBx.out))
          have frg := fun j => HDx.out.frz j
          obtain ⟨q0, q1, q2, q3, q4, q5⟩ := HDx.out.cells
          simp only at q0 q1 q2 q3 q4 q5
          obtain ⟨z, hz⟩ : ∃ z, (frm nme F).1 = z := ⟨_, rfl⟩
          obtain ⟨ok, hok⟩ : ∃ ok, (frm nme F).2 = ok := ⟨_, rfl⟩
          rw [hz, hok] at HVL
          rw [hz, hok] at HFm
          clear hz hok
          go_wp2_with fail
          refine HFm.out.mono ?_
          rintro e w1 ⟨rfl, rfl⟩
          go_upto_region 29 with fail
          have HD9 := hide ((HDx.out.words z).bad (!ok))
          have HR9 := hide ((HRx.out.other (k := w.heap.size + 1) (j := 4) (.int .i64 z) (by omega)).other (k := w.heap.size + 1) (j := 5) (.bool (!ok)) (by omega))
          have HO9 := hide (own_set (own_set HOx.out HDx.out (j := 4) (.int .i64 z)) (HDx.out.words z) (j := 5) (.bool (!ok)))
          have HB9 := hide ((HBx.out.setCell (p := ⟨w.heap.size + 1, 4, none⟩) (by simp) (.int .i64 z)).setCell (p := ⟨w.heap.size + 1, 5, none⟩) (by simp) (.bool (!ok)))
          clear frg q0 q1 q2 q3 q4 q5 HFm HDx HRx HOx HBx
          generalize (w1.setCell ⟨w.heap.size + 1, 4, none⟩ (.int .i64 z)).setCell ⟨w.heap.size + 1, 5, none⟩ (.bool (!ok)) = Y at *
          have fr := fun j => HR9.out.frz j
          obtain ⟨r0, r1, r2, r3, r4, r5⟩ := HR9.out.cells
          obtain ⟨q0, q1, q2, q3, q4, q5⟩ := HD9.out.cells
          have HS := hide (dl_sets HR9.out (⟨[], false, nme, F, z, !ok⟩ : Dl) fo c)
          simp only at q0 q1 q2 q3 q4 q5 HS
          go_wp2
          refine bodyPost_ret (results_cell_row rfl _ _ w.heap.size 42 (dlL (⟨[], false, nme, F, z, !ok⟩ : Dl) fo c).toArray (0, 0) _ rfl HS.out Tryd.underlying42 rfl info_dl) rfl ?_
          exact ⟨fo, c, by rw [HVL.out] <;> rfl, by rw [HVL.out]; exact own_six HO9.out HR9.out, six HB9.out (Nat.le_refl _)⟩
end
end Go.Proofs.YtbfagiofhakjnaaDoor
