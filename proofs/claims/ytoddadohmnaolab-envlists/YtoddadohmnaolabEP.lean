import Derived.Test.YtoddadohmnaolabEO
import Derived.Shelf.SlSortCmp.NoneTotal
import Derived.Shelf.SlGeneric
import Derived.Ground.SlsfProg
namespace Go.Proofs.Ytoddadohmnaolab
open Go.RowKit Go.Shelf Go.Sort Go.Proofs Go.Lib

def Try.sortI_ren : Go.Shelf.Ren := ⟨fun | 6 => 66 | 15 => 78 | 14 => 77 | 28 => 88 | 29 => 89 | 20 => 80 | 21 => 81 | 22 => 82 | 23 => 83 | 24 => 84 | 25 => 85 | 26 => 86 | 27 => 87 | 46 => 90 | 47 => 91 | 48 => 92 | 49 => 93 | 50 => 94 | 57 => 95 | n => n, fun | 22 => 49 | 24 => 3 | 25 => 108 | 3 => 3 | 39 => 115 | 0 => 0 | 53 => 33 | 55 => 126 | 4 => 4 | 46 => 118 | 45 => 117 | 50 => 122 | 5 => 5 | 9 => 9 | 66 => 127 | 70 => 131 | 76 => 133 | 77 => 134 | n => n, fun | n => n⟩
theorem Try.sortI : Go.Proofs.SlLaysF.n6 Try.prog Try.sortI_ren := {
  mixed := by kernel_rfl
  f6 := ⟨Try.f66.name, by decide, Try.func66.trans (congrArg some (by kernel_rfl))⟩
  f14 := ⟨Try.f77.name, by decide, Try.func77.trans (congrArg some (by kernel_rfl))⟩
  f15 := Try.func78.trans (congrArg some (by kernel_rfl))
  f20 := ⟨Try.f80.name, by decide, Try.func80.trans (congrArg some (by kernel_rfl))⟩
  f21 := ⟨Try.f81.name, by decide, Try.func81.trans (congrArg some (by kernel_rfl))⟩
  f22 := ⟨Try.f82.name, by decide, Try.func82.trans (congrArg some (by kernel_rfl))⟩
  f23 := ⟨Try.f83.name, by decide, Try.func83.trans (congrArg some (by kernel_rfl))⟩
  f24 := ⟨Try.f84.name, by decide, Try.func84.trans (congrArg some (by kernel_rfl))⟩
  f25 := ⟨Try.f85.name, by decide, Try.func85.trans (congrArg some (by kernel_rfl))⟩
  f26 := ⟨Try.f86.name, by decide, Try.func86.trans (congrArg some (by kernel_rfl))⟩
  f27 := ⟨Try.f87.name, by decide, Try.func87.trans (congrArg some (by kernel_rfl))⟩
  f28 := Try.func88.trans (congrArg some (by kernel_rfl))
  f29 := Try.func89.trans (congrArg some (by kernel_rfl))
  f46 := ⟨Try.f90.name, by decide, Try.func90.trans (congrArg some (by kernel_rfl))⟩
  f47 := Try.func91.trans (congrArg some (by kernel_rfl))
  f48 := Try.func92.trans (congrArg some (by kernel_rfl))
  f49 := ⟨Try.f93.name, by decide, Try.func93.trans (congrArg some (by kernel_rfl))⟩
  f50 := ⟨Try.f94.name, by decide, Try.func94.trans (congrArg some (by kernel_rfl))⟩
  f57 := ⟨Try.f95.name, by decide, Try.func95.trans (congrArg some (by kernel_rfl))⟩
  t0 := Try.underlying0
  a0 := Try.isAgg0
  z0 := Try.sizeOf0
  v0 := Try.zeroValue0
  t3 := Try.underlying3
  a3 := Try.isAgg3
  z3 := Try.sizeOf3
  v3 := Try.zeroValue3
  t4 := Try.underlying4
  a4 := Try.isAgg4
  z4 := Try.sizeOf4
  v4 := Try.zeroValue4
  t5 := Try.underlying5
  a5 := Try.isAgg5
  z5 := Try.sizeOf5
  v5 := Try.zeroValue5
  t9 := Try.underlying9
  a9 := Try.isAgg9
  z9 := Try.sizeOf9
  v9 := Try.zeroValue9
  t22 := Try.underlying49
  a22 := Try.isAgg49
  z22 := Try.sizeOf49
  v22 := Try.zeroValue49
  a24 := Try.isAgg3
  z24 := Try.sizeOf3
  t25 := Try.underlying108
  a25 := Try.isAgg108
  z25 := Try.sizeOf108
  v25 := Try.zeroValue108
  t39 := Try.underlying115
  a39 := Try.isAgg115
  z39 := Try.sizeOf115
  v39 := Try.zeroValue115
  t45 := Try.underlying117
  a45 := Try.isAgg117
  z45 := Try.sizeOf117
  v45 := Try.zeroValue117
  t46 := Try.underlying118
  a46 := Try.isAgg118
  z46 := Try.sizeOf118
  v46 := Try.zeroValue118
  t50 := Try.underlying122
  a50 := Try.isAgg122
  z50 := Try.sizeOf122
  v50 := Try.zeroValue122
  t53 := Try.underlying33
  a53 := Try.isAgg33
  z53 := Try.sizeOf33
  v53 := Try.zeroValue33
  t55 := Try.underlying126
  a55 := Try.isAgg126
  z55 := Try.sizeOf126
  v55 := Try.zeroValue126
  t66 := Try.underlying127
  a66 := Try.isAgg127
  z66 := Try.sizeOf127
  v66 := Try.zeroValue127
  t70 := Try.underlying131
  a70 := Try.isAgg131
  z70 := Try.sizeOf131
  v70 := Try.zeroValue131
  t76 := Try.underlying133
  a76 := Try.isAgg133
  z76 := Try.sizeOf133
  v76 := Try.zeroValue133
  t77 := Try.underlying134
  a77 := Try.isAgg134
  z77 := Try.sizeOf134
  v77 := Try.zeroValue134 }
def Try.sortI0_ren : Go.Shelf.Ren := ⟨fun | 6 => 66 | 15 => 78 | 14 => 77 | 28 => 88 | 29 => 89 | 20 => 80 | 21 => 81 | 22 => 82 | 23 => 83 | 24 => 84 | 25 => 85 | 26 => 86 | 27 => 87 | 46 => 90 | 47 => 91 | 48 => 92 | 49 => 93 | 50 => 94 | 57 => 95 | n => n, fun | 22 => 49 | 24 => 3 | 25 => 108 | 3 => 3 | 39 => 115 | 0 => 0 | 53 => 33 | 55 => 126 | 4 => 4 | 46 => 118 | 45 => 117 | 50 => 122 | 5 => 5 | 9 => 9 | 66 => 127 | 70 => 131 | 76 => 133 | 77 => 134 | n => n, fun | n => n⟩
theorem Try.sortI0 : Go.Proofs.SlLaysF0.n6 Try.prog Try.sortI0_ren := {
  mixed := by kernel_rfl
  f6 := ⟨Try.f66.name, by decide, Try.func66.trans (congrArg some (by kernel_rfl))⟩
  f14 := ⟨Try.f77.name, by decide, Try.func77.trans (congrArg some (by kernel_rfl))⟩
  f15 := Try.func78.trans (congrArg some (by kernel_rfl))
  f20 := ⟨Try.f80.name, by decide, Try.func80.trans (congrArg some (by kernel_rfl))⟩
  f21 := ⟨Try.f81.name, by decide, Try.func81.trans (congrArg some (by kernel_rfl))⟩
  f22 := ⟨Try.f82.name, by decide, Try.func82.trans (congrArg some (by kernel_rfl))⟩
  f23 := ⟨Try.f83.name, by decide, Try.func83.trans (congrArg some (by kernel_rfl))⟩
  f24 := ⟨Try.f84.name, by decide, Try.func84.trans (congrArg some (by kernel_rfl))⟩
  f25 := ⟨Try.f85.name, by decide, Try.func85.trans (congrArg some (by kernel_rfl))⟩
  f26 := ⟨Try.f86.name, by decide, Try.func86.trans (congrArg some (by kernel_rfl))⟩
  f27 := ⟨Try.f87.name, by decide, Try.func87.trans (congrArg some (by kernel_rfl))⟩
  f28 := Try.func88.trans (congrArg some (by kernel_rfl))
  f29 := Try.func89.trans (congrArg some (by kernel_rfl))
  f46 := ⟨Try.f90.name, by decide, Try.func90.trans (congrArg some (by kernel_rfl))⟩
  f47 := Try.func91.trans (congrArg some (by kernel_rfl))
  f48 := Try.func92.trans (congrArg some (by kernel_rfl))
  f49 := ⟨Try.f93.name, by decide, Try.func93.trans (congrArg some (by kernel_rfl))⟩
  f50 := ⟨Try.f94.name, by decide, Try.func94.trans (congrArg some (by kernel_rfl))⟩
  f57 := ⟨Try.f95.name, by decide, Try.func95.trans (congrArg some (by kernel_rfl))⟩
  t0 := Try.underlying0
  a0 := Try.isAgg0
  z0 := Try.sizeOf0
  v0 := Try.zeroValue0
  t3 := Try.underlying3
  a3 := Try.isAgg3
  z3 := Try.sizeOf3
  v3 := Try.zeroValue3
  t4 := Try.underlying4
  a4 := Try.isAgg4
  z4 := Try.sizeOf4
  v4 := Try.zeroValue4
  t5 := Try.underlying5
  a5 := Try.isAgg5
  z5 := Try.sizeOf5
  v5 := Try.zeroValue5
  t9 := Try.underlying9
  a9 := Try.isAgg9
  z9 := Try.sizeOf9
  v9 := Try.zeroValue9
  t22 := Try.underlying49
  a22 := Try.isAgg49
  z22 := Try.sizeOf49
  v22 := Try.zeroValue49
  t25 := Try.underlying108
  a25 := Try.isAgg108
  z25 := Try.sizeOf108
  v25 := Try.zeroValue108
  t39 := Try.underlying115
  a39 := Try.isAgg115
  z39 := Try.sizeOf115
  v39 := Try.zeroValue115
  t45 := Try.underlying117
  a45 := Try.isAgg117
  z45 := Try.sizeOf117
  v45 := Try.zeroValue117
  t46 := Try.underlying118
  a46 := Try.isAgg118
  z46 := Try.sizeOf118
  v46 := Try.zeroValue118
  t50 := Try.underlying122
  a50 := Try.isAgg122
  z50 := Try.sizeOf122
  v50 := Try.zeroValue122
  t53 := Try.underlying33
  a53 := Try.isAgg33
  z53 := Try.sizeOf33
  v53 := Try.zeroValue33
  t55 := Try.underlying126
  a55 := Try.isAgg126
  z55 := Try.sizeOf126
  v55 := Try.zeroValue126
  t66 := Try.underlying127
  a66 := Try.isAgg127
  z66 := Try.sizeOf127
  v66 := Try.zeroValue127
  t70 := Try.underlying131
  a70 := Try.isAgg131
  z70 := Try.sizeOf131
  v70 := Try.zeroValue131
  t76 := Try.underlying133
  a76 := Try.isAgg133
  z76 := Try.sizeOf133
  v76 := Try.zeroValue133
  t77 := Try.underlying134
  a77 := Try.isAgg134
  z77 := Try.sizeOf134
  v77 := Try.zeroValue134 }
def numN (l : List Nat) : List Value := l.map (fun k : Nat => Value.int .i64 (k : Int))
theorem numN_len (l : List Nat) : (numN l).length = l.length := by simp [numN]
section
variable {α : Type} [Inhabited α] (enc : α → Value) {w : World} {g n : Nat} {os : Array Obj}
theorem heap_sorted1 {cur : Array Value} {e : TypeId} {fr : Nat × Nat} (d : Array α) (hb : w.heap[g]? = some (.cells cur e fr)) : (sortWorld enc w g 0 n d os).heap[g]? = some (.cells (putCells enc 0 d cur) e fr) := by
  have hg : g < w.heap.size := (Array.getElem?_eq_some_iff.1 hb).1
  unfold sortWorld
  rw [heap_grow_old _ _ (by simpa using hg)]
  simp [putRow, mapBlock, Sort.ahead, Array.getElem?_modify, hb, onCells]
theorem heap_sorted1_other (d : Array α) {k : Nat} (hk : k < w.heap.size) (hne : k ≠ g) : (sortWorld enc w g 0 n d os).heap[k]? = w.heap[k]? := by
  unfold sortWorld
  rw [heap_grow_old _ _ (by simpa using hk)]
  have : g ≠ k := fun e => hne e.symm
  simp [putRow, mapBlock, Sort.ahead, Array.getElem?_modify, this]
theorem size_sorted1 (d : Array α) : w.heap.size ≤ (sortWorld enc w g 0 n d os).heap.size := by
  unfold sortWorld
  simp [grow, putRow, mapBlock, Sort.ahead]
theorem take_put1 (cur : Array Value) (d : Array α) (h : d.size ≤ cur.size) : (putCells enc 0 d cur).toList.take d.size = d.toList.map enc := by
  apply List.ext_getElem?
  intro j
  by_cases hj : j < d.size
  · rw [List.getElem?_take_of_lt hj, Array.getElem?_toList]
    simp [putCells, hj, show j < cur.size by omega]
  · rw [List.getElem?_take_eq_none (by omega), List.getElem?_eq_none (by simp; omega)]
end
theorem ci_neg (x y : Int) : (ci x y < 0) = (x < y) := by
  unfold ci
  split
  · simp; omega
  · split
    · simp; omega
    · simp; omega
section
variable {rs : List (Option Er)}
/-- those that live -/
abbrev Liv (rs : List (Option Er)) : Type := { k : Nat // Lv rs k }
def encL (x : Liv rs) : Value := .int .i64 (x.1 : Int)
def cfL (x y : Liv rs) : Int := ci (ser rs x.1) (ser rs y.1)
theorem lt_cfL (x y : Liv rs) : ltOf cfL x y = decide (ser rs x.1 < ser rs y.1) := by
  show decide (ci (ser rs x.1) (ser rs y.1) < 0) = _
  simp only [ci_neg]
theorem swo_cfL : SWO (ltOf (cfL (rs := rs))) where
  irrefl x := by rw [lt_cfL]; simp
  trans x y z h1 h2 := by rw [lt_cfL, decide_eq_true_iff] at *; omega
  ntrans x y z h1 h2 := by rw [lt_cfL, decide_eq_false_iff_not] at *; omega
/-- no two have the same serial -/
def Dis (rs : List (Option Er)) : Prop := ∀ a b, Lv rs a → Lv rs b → ser rs a = ser rs b → a = b
theorem enters_cfL : ∀ args w, (callFunc 67 args).run Try.prog w = .ok (.enter 67 args) w := enters_of Try.func67 (by kernel_rfl) rfl
end
theorem sortK_any (w : World) (F : Nat → Prop) (T : Nat) (rs : List (Option Er)) (last : Int) (h : Et w F T rs last) (hD : Dis rs) (tb : Nat) (tt : TypeId) (htb : w.heap[tb]? = some (.cells #[.pointer (some ⟨T, 0, none⟩)] tt (0, 0))) (base : Nat) (v : Value) (ks : List Nat) (hL : ∀ k ∈ ks, Lv rs k)
    (hrow : w.ownsRow base 3 1 v ks.length (numN ks)) (hv : ∀ b, v.ownBlock = some b → ¬ F b ∧ b ≠ tb) (hle : ks.length ≤ 4096) :
    Calls Try.prog 66 #[v, .func (.func 67) #[] #[.pointer (some ⟨tb, 0, none⟩)]] w fun e w' => e = .returned (.tuple #[]) ∧ ∃ ts, List.Perm ts ks ∧ ts.Pairwise (fun a b => ser rs a ≤ ser rs b) ∧ w'.ownsRow base 3 1 v ts.length (numN ts) ∧ w.grownBy w' v.ownBlock := by
  by_cases h0 : ks = []
  · subst h0
    obtain ⟨a, c, rfl⟩ := own_shape hrow
    have hcon := AnyF.slices_SortFunc_none Try.sortI0 a c (.func (.func 67) #[] #[.pointer (some ⟨tb, 0, none⟩)]) w
    change Calls Try.prog 66 _ _ _ at hcon
    refine hcon.mono ?_
    rintro e w' ⟨rfl, rfl⟩
    exact ⟨rfl, [], List.Perm.refl _, List.Pairwise.nil, hrow, ⟨rfl, rfl, rfl, Nat.le_refl _, fun _ _ _ => rfl⟩⟩
  · obtain ⟨k0, hk0⟩ : ∃ k, k ∈ ks := List.exists_mem_of_ne_nil _ h0
    haveI : Inhabited (Liv rs) := ⟨⟨k0, hL k0 hk0⟩⟩
    obtain ⟨d, hd⟩ : ∃ d : List (Liv rs), d.map (·.1) = ks := ⟨ks.attach.map (fun x => ⟨x.1, hL x.1 x.2⟩), by simp⟩
    have hdl : d.length = ks.length := by rw [← hd]; simp
    rcases hrow.2 with ⟨hnil, h00⟩ | ⟨g, cap, cur, rfl, hbase, hb, h1, h2, h3, h4⟩
    · exact absurd (List.length_eq_zero_iff.1 h00) h0
    obtain ⟨hgF, hgt⟩ := hv g rfl
    have hcmp : CmpLays1 Try.prog 67 #[.pointer (some ⟨tb, 0, none⟩)] (encL (rs := rs)) cfL g 0 d.toArray.size w := by
      intro m os dk _ x y
      have hE : Et (sortWorld (encL (rs := rs)) w g 0 m dk os) F T rs last := h.keep (size_sorted1 _ _) (fun b hb' => heap_sorted1_other _ _ (h.lt b hb') (fun e => hgF (e ▸ hb')))
      have hc : (sortWorld (encL (rs := rs)) w g 0 m dk os).cell? ⟨tb, 0, none⟩ = some (.pointer (some ⟨T, 0, none⟩)) := by
        rw [cell_of_row _ _ _ _ _ _ ((heap_sorted1_other _ _ (Array.getElem?_eq_some_iff.1 htb).1 (fun e => hgt e.symm)).trans htb)]; rfl
      refine (cmpK_any _ F T rs last hE tb hc x.1 y.1 x.2 y.2).mono ?_
      rintro e w' ⟨rfl, q, rfl⟩
      exact ⟨rfl, q, #[], by rw [grow_empty]⟩
    have hH : Holds (encL (rs := rs)) w g 0 d.toArray := by
      intro j hj
      have hj' : j < ks.length := by simpa [hdl] using hj
      refine ⟨?_, by simp [World.frozen?, hb]⟩
      have e1 : (cur.toList.take ks.length)[j]? = (numN ks)[j]? := by rw [← h4]; simp
      rw [List.getElem?_take_of_lt hj', Array.getElem?_toList] at e1
      rw [show 0 + j = j by omega, cell_of_row _ _ _ _ _ _ hb, e1]
      have hjd : j < d.length := by omega
      simp only [numN, ← hd, List.map_map, List.getElem?_map, List.getElem?_eq_getElem hjd]
      rw [getElem!_pos _ j hj]
      simp [encL]
    have hcon := Any.slices_SortFunc_total Try.sortI (encL (rs := rs)) (fun _ => rfl) cfL swo_cfL 67 #[.pointer (some ⟨tb, 0, none⟩)] g 0 cap d.toArray w enters_cfL hcmp hH (Array.getElem?_eq_some_iff.1 hb).1 (by simp; omega) (fun x y e1 e2 => by
      rw [lt_cfL, decide_eq_false_iff_not] at e1 e2
      exact Subtype.ext (hD _ _ x.2 y.2 (by omega)))
    change Calls Try.prog 66 _ _ _ at hcon
    rw [show d.toArray.size = ks.length by simp [hdl]] at hcon
    refine hcon.mono ?_
    rintro e w' ⟨rfl, n, os, rfl⟩
    have hp : (d.toArray.toList.mergeSort fun x y => !ltOf cfL y x).Perm d := List.mergeSort_perm _ _
    have hpl := hp.length_eq
    refine ⟨rfl, (d.toArray.toList.mergeSort fun x y => !ltOf cfL y x).map (·.1), ?_, ?_, ?_, ?_⟩
    · rw [← hd]; exact hp.map _
    · refine List.Pairwise.map _ (fun a b hab => hab) ?_
      refine List.Pairwise.imp (fun {a b} h => ?_) (List.pairwise_mergeSort (le := fun x y => !ltOf cfL y x) (fun a b c h1 h2 => ?_) (fun a b => ?_) d.toArray.toList)
      · simp only [Bool.not_eq_true', lt_cfL, decide_eq_false_iff_not] at h
        omega
      · simp only [Bool.not_eq_true', lt_cfL, decide_eq_false_iff_not] at h1 h2 ⊢
        omega
      · simp only [lt_cfL]
        by_cases e : ser rs b.1 < ser rs a.1 <;> simp [e]; omega
    · have h5 := take_put1 (encL (rs := rs)) cur (d.toArray.toList.mergeSort fun x y => !ltOf cfL y x).toArray (by simp [hdl]; omega)
      refine ⟨by simp [numN], .inr ⟨g, cap, _, by simp [hdl], hbase, heap_sorted1 _ _ hb, by simp [hdl]; omega, h2, by simp [putCells, h3], ?_⟩⟩
      rw [show ((d.toArray.toList.mergeSort fun x y => !ltOf cfL y x).map (·.1)).length * 1 = (d.toArray.toList.mergeSort fun x y => !ltOf cfL y x).toArray.size by simp, h5]
      simp [numN, encL]
    · refine ⟨rfl, rfl, rfl, size_sorted1 _ _, fun k hk hne => heap_sorted1_other _ _ hk (fun e => hne (by rw [e]; rfl))⟩
end Go.Proofs.Ytoddadohmnaolab
