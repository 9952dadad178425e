import Derived.Test.YtjpnjgbcmodnoaaXA
import Derived.Shelf.SlSortCmp.NoneTotal
import Derived.Shelf.SlGeneric
import Derived.Ground.SlsfProg
namespace Go.Proofs.Ytjpnjgbcmodnoaa
open Go.RowKit Go.Shelf Go.Sort Go.Proofs Go.Lib

def Try.sortP_ren : Go.Shelf.Ren := ⟨fun | 6 => 48 | 15 => 68 | 14 => 67 | 28 => 85 | 29 => 86 | 20 => 77 | 21 => 78 | 22 => 79 | 23 => 80 | 24 => 81 | 25 => 82 | 26 => 83 | 27 => 84 | 46 => 87 | 47 => 88 | 48 => 89 | 49 => 90 | 50 => 91 | 57 => 92 | n => n, fun | 22 => 83 | 24 => 45 | 25 => 95 | 3 => 3 | 39 => 119 | 0 => 0 | 53 => 131 | 55 => 133 | 4 => 4 | 46 => 124 | 45 => 123 | 50 => 128 | 5 => 5 | 9 => 9 | 66 => 134 | 70 => 138 | 76 => 140 | 77 => 141 | n => n, fun | n => n⟩
theorem Try.sortP : Go.Proofs.SlLaysF0.n6 Try.prog Try.sortP_ren := {
  mixed := by kernel_rfl
  f6 := ⟨Try.f48.name, by decide, Try.func48.trans (congrArg some (by kernel_rfl))⟩
  f14 := ⟨Try.f67.name, by decide, Try.func67.trans (congrArg some (by kernel_rfl))⟩
  f15 := Try.func68.trans (congrArg some (by kernel_rfl))
  f20 := ⟨Try.f77.name, by decide, Try.func77.trans (congrArg some (by kernel_rfl))⟩
  f21 := ⟨Try.f78.name, by decide, Try.func78.trans (congrArg some (by kernel_rfl))⟩
  f22 := ⟨Try.f79.name, by decide, Try.func79.trans (congrArg some (by kernel_rfl))⟩
  f23 := ⟨Try.f80.name, by decide, Try.func80.trans (congrArg some (by kernel_rfl))⟩
  f24 := ⟨Try.f81.name, by decide, Try.func81.trans (congrArg some (by kernel_rfl))⟩
  f25 := ⟨Try.f82.name, by decide, Try.func82.trans (congrArg some (by kernel_rfl))⟩
  f26 := ⟨Try.f83.name, by decide, Try.func83.trans (congrArg some (by kernel_rfl))⟩
  f27 := ⟨Try.f84.name, by decide, Try.func84.trans (congrArg some (by kernel_rfl))⟩
  f28 := Try.func85.trans (congrArg some (by kernel_rfl))
  f29 := Try.func86.trans (congrArg some (by kernel_rfl))
  f46 := ⟨Try.f87.name, by decide, Try.func87.trans (congrArg some (by kernel_rfl))⟩
  f47 := Try.func88.trans (congrArg some (by kernel_rfl))
  f48 := Try.func89.trans (congrArg some (by kernel_rfl))
  f49 := ⟨Try.f90.name, by decide, Try.func90.trans (congrArg some (by kernel_rfl))⟩
  f50 := ⟨Try.f91.name, by decide, Try.func91.trans (congrArg some (by kernel_rfl))⟩
  f57 := ⟨Try.f92.name, by decide, Try.func92.trans (congrArg some (by kernel_rfl))⟩
  t0 := Try.underlying0
  a0 := Try.isAgg0
  z0 := Try.sizeOf0
  v0 := Try.zeroValue0
  t3 := Try.underlying3
  a3 := Try.isAgg3
  z3 := Try.sizeOf3
  v3 := Try.zeroValue3
  t4 := Try.underlying4
  a4 := Try.isAgg4
  z4 := Try.sizeOf4
  v4 := Try.zeroValue4
  t5 := Try.underlying5
  a5 := Try.isAgg5
  z5 := Try.sizeOf5
  v5 := Try.zeroValue5
  t9 := Try.underlying9
  a9 := Try.isAgg9
  z9 := Try.sizeOf9
  v9 := Try.zeroValue9
  t22 := Try.underlying83
  a22 := Try.isAgg83
  z22 := Try.sizeOf83
  v22 := Try.zeroValue83
  t25 := Try.underlying95
  a25 := Try.isAgg95
  z25 := Try.sizeOf95
  v25 := Try.zeroValue95
  t39 := Try.underlying119
  a39 := Try.isAgg119
  z39 := Try.sizeOf119
  v39 := Try.zeroValue119
  t45 := Try.underlying123
  a45 := Try.isAgg123
  z45 := Try.sizeOf123
  v45 := Try.zeroValue123
  t46 := Try.underlying124
  a46 := Try.isAgg124
  z46 := Try.sizeOf124
  v46 := Try.zeroValue124
  t50 := Try.underlying128
  a50 := Try.isAgg128
  z50 := Try.sizeOf128
  v50 := Try.zeroValue128
  t53 := Try.underlying131
  a53 := Try.isAgg131
  z53 := Try.sizeOf131
  v53 := Try.zeroValue131
  t55 := Try.underlying133
  a55 := Try.isAgg133
  z55 := Try.sizeOf133
  v55 := Try.zeroValue133
  t66 := Try.underlying134
  a66 := Try.isAgg134
  z66 := Try.sizeOf134
  v66 := Try.zeroValue134
  t70 := Try.underlying138
  a70 := Try.isAgg138
  z70 := Try.sizeOf138
  v70 := Try.zeroValue138
  t76 := Try.underlying140
  a76 := Try.isAgg140
  z76 := Try.sizeOf140
  v76 := Try.zeroValue140
  t77 := Try.underlying141
  a77 := Try.isAgg141
  z77 := Try.sizeOf141
  v77 := Try.zeroValue141 }
theorem lt_cp (x y : Nat × Nat) : ltOf cp x y = decide (cp x y < 0) := rfl
theorem swo_cp : SWO (ltOf cp) where
  irrefl x := by
    rw [lt_cp, decide_eq_false_iff_not, cp_neg]
    intro h
    exact h.ne rfl
  trans x y z h1 h2 := by
    rw [lt_cp, decide_eq_true_iff, cp_neg] at *
    unfold PLt at *
    omega
  ntrans x y z h1 h2 := by
    rw [lt_cp, decide_eq_false_iff_not, cp_neg] at *
    unfold PLt at *
    omega
theorem tot_cp (x y : Nat × Nat) (h1 : ltOf cp x y = false) (h2 : ltOf cp y x = false) : x = y := by
  rw [lt_cp, decide_eq_false_iff_not, cp_neg] at h1 h2
  unfold PLt at h1 h2
  exact Prod.ext (by omega) (by omega)
theorem encP_one (x : Nat × Nat) : ∀ v ∈ encP x, v.oneCell' = true := by
  intro v hv
  simp [encP] at hv
  rcases hv with rfl | rfl <;> rfl
theorem cmpLays (blk off size : Nat) (w : World) : CmpLays Try.prog 49 #[] encP 2 cp blk off size w := fun _ _ _ _ x y => closure_any _ x y
theorem enters_cp : ∀ args w, (callFunc 49 args).run Try.prog w = .ok (.enter 49 args) w := enters_of Try.func49 (by kernel_rfl) rfl
theorem isAgg_place : ∀ w, (isAgg 45).run Try.prog w = .ok true w := fun _ => by kernel_rfl
theorem sizeOf_place : ∀ w, (Go.sizeOf 45).run Try.prog w = .ok 2 w := fun _ => by kernel_rfl
theorem sort_any (w : World) (base : Nat) (v : Value) (ps : List (Nat × Nat)) (hrow : w.ownsRow base 45 2 v ps.length (encPs ps)) (hle : ps.length ≤ 768) :
    Calls Try.prog 48 #[v, .func (.func 49) #[] #[]] w fun e w' => e = .returned (.tuple #[]) ∧ ∃ ts, List.Perm ts ps ∧ ts.Pairwise (fun a b => ¬ PLt b a) ∧ w'.ownsRow base 45 2 v ts.length (encPs ts) ∧ Grew w v w' v := by
  rcases hrow.2 with ⟨hnil, h0⟩ | ⟨g, cap, cur, rfl, hbase, hb, h1, h2, h3, h4⟩
  · obtain rfl : ps = [] := List.length_eq_zero_iff.1 h0
    subst hnil
    have hcon := AnyF.slices_SortFunc_none Try.sortP none 0 (.func (.func 49) #[] #[]) w
    change Calls Try.prog 48 _ _ _ at hcon
    refine hcon.mono ?_
    rintro e w' ⟨rfl, rfl⟩
    exact ⟨rfl, [], List.Perm.refl _, List.Pairwise.nil, hrow, Grew.refl _ _⟩
  · have hcon := AnyQ.slices_SortFunc_total Try.sortP 2 isAgg_place sizeOf_place encP (fun _ => rfl) encP_one cp swo_cp 49 #[] g 0 cap ps.toArray w enters_cp (cmpLays g 0 _ w) (holdsK_own hb h4) (Array.getElem?_eq_some_iff.1 hb).1 (by simp; omega) tot_cp
    change Calls Try.prog 48 _ _ _ at hcon
    rw [show ps.toArray.size = ps.length by simp] at hcon
    refine hcon.mono ?_
    rintro e w' ⟨rfl, n, os, rfl⟩
    have hp : (ps.toArray.toList.mergeSort fun x y => !ltOf cp y x).Perm ps := List.mergeSort_perm _ _
    refine ⟨rfl, _, hp, ?_, ?_, grew_sorted _⟩
    · refine List.Pairwise.imp (fun {a b} h => ?_) (List.pairwise_mergeSort (le := fun x y => !ltOf cp y x) (fun a b c h1 h2 => ?_) (fun a b => ?_) ps)
      · simp only [Bool.not_eq_true', lt_cp, decide_eq_false_iff_not, cp_neg] at h
        exact h
      · simp only [Bool.not_eq_true'] at h1 h2 ⊢
        exact swo_cp.ntrans _ _ _ h2 h1
      · by_cases h : ltOf cp b a = true
        · have := swo_cp.trans b a b
          rw [show ltOf cp a b = false by
            cases e : ltOf cp a b with
            | false => rfl
            | true => have := swo_cp.trans _ _ _ h e; rw [swo_cp.irrefl] at this; cases this]
          simp
        · simp [Bool.not_eq_true _ ▸ h]
    · rw [hp.length_eq]
      exact ownsRow_sortedK hp.length_eq hbase hb h1 h2 h3
end Go.Proofs.Ytjpnjgbcmodnoaa
