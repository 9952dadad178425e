import Derived.Test.YtimfgjndgfjjgaaXA
import Derived.Shelf.SlSortCmp.NoneTotal
import Derived.Shelf.SlGeneric
import Derived.Ground.SlsfProg
namespace Go.Proofs.Ytimfgjndgfjjgaa
open Go.RowKit Go.Shelf Go.Sort Go.Proofs Go.Lib

def Try.sortP_ren : Go.Shelf.Ren := ⟨fun | 6 => 51 | 15 => 77 | 14 => 76 | 28 => 94 | 29 => 95 | 20 => 86 | 21 => 87 | 22 => 88 | 23 => 89 | 24 => 90 | 25 => 91 | 26 => 92 | 27 => 93 | 46 => 96 | 47 => 97 | 48 => 98 | 49 => 99 | 50 => 100 | 57 => 101 | n => n, fun | 22 => 29 | 24 => 28 | 25 => 105 | 3 => 3 | 39 => 134 | 0 => 0 | 53 => 146 | 55 => 148 | 4 => 4 | 46 => 139 | 45 => 138 | 50 => 143 | 5 => 5 | 9 => 9 | 66 => 149 | 70 => 153 | 76 => 155 | 77 => 156 | n => n, fun | n => n⟩
theorem Try.sortP : Go.Proofs.SlLaysF0.n6 Try.prog Try.sortP_ren := {
  mixed := by kernel_rfl
  f6 := ⟨Try.f51.name, by decide, Try.func51.trans (congrArg some (by kernel_rfl))⟩
  f14 := ⟨Try.f76.name, by decide, Try.func76.trans (congrArg some (by kernel_rfl))⟩
  f15 := Try.func77.trans (congrArg some (by kernel_rfl))
  f20 := ⟨Try.f86.name, by decide, Try.func86.trans (congrArg some (by kernel_rfl))⟩
  f21 := ⟨Try.f87.name, by decide, Try.func87.trans (congrArg some (by kernel_rfl))⟩
  f22 := ⟨Try.f88.name, by decide, Try.func88.trans (congrArg some (by kernel_rfl))⟩
  f23 := ⟨Try.f89.name, by decide, Try.func89.trans (congrArg some (by kernel_rfl))⟩
  f24 := ⟨Try.f90.name, by decide, Try.func90.trans (congrArg some (by kernel_rfl))⟩
  f25 := ⟨Try.f91.name, by decide, Try.func91.trans (congrArg some (by kernel_rfl))⟩
  f26 := ⟨Try.f92.name, by decide, Try.func92.trans (congrArg some (by kernel_rfl))⟩
  f27 := ⟨Try.f93.name, by decide, Try.func93.trans (congrArg some (by kernel_rfl))⟩
  f28 := Try.func94.trans (congrArg some (by kernel_rfl))
  f29 := Try.func95.trans (congrArg some (by kernel_rfl))
  f46 := ⟨Try.f96.name, by decide, Try.func96.trans (congrArg some (by kernel_rfl))⟩
  f47 := Try.func97.trans (congrArg some (by kernel_rfl))
  f48 := Try.func98.trans (congrArg some (by kernel_rfl))
  f49 := ⟨Try.f99.name, by decide, Try.func99.trans (congrArg some (by kernel_rfl))⟩
  f50 := ⟨Try.f100.name, by decide, Try.func100.trans (congrArg some (by kernel_rfl))⟩
  f57 := ⟨Try.f101.name, by decide, Try.func101.trans (congrArg some (by kernel_rfl))⟩
  t0 := Try.underlying0
  a0 := Try.isAgg0
  z0 := Try.sizeOf0
  v0 := Try.zeroValue0
  t3 := Try.underlying3
  a3 := Try.isAgg3
  z3 := Try.sizeOf3
  v3 := Try.zeroValue3
  t4 := Try.underlying4
  a4 := Try.isAgg4
  z4 := Try.sizeOf4
  v4 := Try.zeroValue4
  t5 := Try.underlying5
  a5 := Try.isAgg5
  z5 := Try.sizeOf5
  v5 := Try.zeroValue5
  t9 := Try.underlying9
  a9 := Try.isAgg9
  z9 := Try.sizeOf9
  v9 := Try.zeroValue9
  t22 := Try.underlying29
  a22 := Try.isAgg29
  z22 := Try.sizeOf29
  v22 := Try.zeroValue29
  t25 := Try.underlying105
  a25 := Try.isAgg105
  z25 := Try.sizeOf105
  v25 := Try.zeroValue105
  t39 := Try.underlying134
  a39 := Try.isAgg134
  z39 := Try.sizeOf134
  v39 := Try.zeroValue134
  t45 := Try.underlying138
  a45 := Try.isAgg138
  z45 := Try.sizeOf138
  v45 := Try.zeroValue138
  t46 := Try.underlying139
  a46 := Try.isAgg139
  z46 := Try.sizeOf139
  v46 := Try.zeroValue139
  t50 := Try.underlying143
  a50 := Try.isAgg143
  z50 := Try.sizeOf143
  v50 := Try.zeroValue143
  t53 := Try.underlying146
  a53 := Try.isAgg146
  z53 := Try.sizeOf146
  v53 := Try.zeroValue146
  t55 := Try.underlying148
  a55 := Try.isAgg148
  z55 := Try.sizeOf148
  v55 := Try.zeroValue148
  t66 := Try.underlying149
  a66 := Try.isAgg149
  z66 := Try.sizeOf149
  v66 := Try.zeroValue149
  t70 := Try.underlying153
  a70 := Try.isAgg153
  z70 := Try.sizeOf153
  v70 := Try.zeroValue153
  t76 := Try.underlying155
  a76 := Try.isAgg155
  z76 := Try.sizeOf155
  v76 := Try.zeroValue155
  t77 := Try.underlying156
  a77 := Try.isAgg156
  z77 := Try.sizeOf156
  v77 := Try.zeroValue156 }
theorem lt_cp (x y : Nat × Nat) : ltOf cp x y = decide (cp x y < 0) := rfl
theorem swo_cp : SWO (ltOf cp) where
  irrefl x := by
    rw [lt_cp, decide_eq_false_iff_not, cp_neg]
    intro h
    exact h.ne rfl
  trans x y z h1 h2 := by
    rw [lt_cp, decide_eq_true_iff, cp_neg] at *
    unfold PLt at *
    omega
  ntrans x y z h1 h2 := by
    rw [lt_cp, decide_eq_false_iff_not, cp_neg] at *
    unfold PLt at *
    omega
theorem tot_cp (x y : Nat × Nat) (h1 : ltOf cp x y = false) (h2 : ltOf cp y x = false) : x = y := by
  rw [lt_cp, decide_eq_false_iff_not, cp_neg] at h1 h2
  unfold PLt at h1 h2
  exact Prod.ext (by omega) (by omega)
theorem encP_one (x : Nat × Nat) : ∀ v ∈ encP x, v.oneCell' = true := by
  intro v hv
  simp [encP] at hv
  rcases hv with rfl | rfl <;> rfl
theorem cmpLays (blk off size : Nat) (w : World) : CmpLays Try.prog 52 #[] encP 2 cp blk off size w := fun _ _ _ _ x y => closure_any _ x y
theorem enters_cp : ∀ args w, (callFunc 52 args).run Try.prog w = .ok (.enter 52 args) w := enters_of Try.func52 (by kernel_rfl) rfl
theorem isAgg_place : ∀ w, (isAgg 28).run Try.prog w = .ok true w := fun _ => by kernel_rfl
theorem sizeOf_place : ∀ w, (Go.sizeOf 28).run Try.prog w = .ok 2 w := fun _ => by kernel_rfl
theorem sort_any (w : World) (base : Nat) (v : Value) (ps : List (Nat × Nat)) (hrow : w.ownsRow base 28 2 v ps.length (encPs ps)) (hle : ps.length ≤ 768) :
    Calls Try.prog 51 #[v, .func (.func 52) #[] #[]] w fun e w' => e = .returned (.tuple #[]) ∧ ∃ ts, List.Perm ts ps ∧ ts.Pairwise (fun a b => ¬ PLt b a) ∧ w'.ownsRow base 28 2 v ts.length (encPs ts) ∧ Grew w v w' v := by
  rcases hrow.2 with ⟨hnil, h0⟩ | ⟨g, cap, cur, rfl, hbase, hb, h1, h2, h3, h4⟩
  · obtain rfl : ps = [] := List.length_eq_zero_iff.1 h0
    subst hnil
    have hcon := AnyF.slices_SortFunc_none Try.sortP none 0 (.func (.func 52) #[] #[]) w
    change Calls Try.prog 51 _ _ _ at hcon
    refine hcon.mono ?_
    rintro e w' ⟨rfl, rfl⟩
    exact ⟨rfl, [], List.Perm.refl _, List.Pairwise.nil, hrow, Grew.refl _ _⟩
  · have hcon := AnyQ.slices_SortFunc_total Try.sortP 2 isAgg_place sizeOf_place encP (fun _ => rfl) encP_one cp swo_cp 52 #[] g 0 cap ps.toArray w enters_cp (cmpLays g 0 _ w) (holdsK_own hb h4) (Array.getElem?_eq_some_iff.1 hb).1 (by simp; omega) tot_cp
    change Calls Try.prog 51 _ _ _ at hcon
    rw [show ps.toArray.size = ps.length by simp] at hcon
    refine hcon.mono ?_
    rintro e w' ⟨rfl, n, os, rfl⟩
    have hp : (ps.toArray.toList.mergeSort fun x y => !ltOf cp y x).Perm ps := List.mergeSort_perm _ _
    refine ⟨rfl, _, hp, ?_, ?_, grew_sorted _⟩
    · refine List.Pairwise.imp (fun {a b} h => ?_) (List.pairwise_mergeSort (le := fun x y => !ltOf cp y x) (fun a b c h1 h2 => ?_) (fun a b => ?_) ps)
      · simp only [Bool.not_eq_true', lt_cp, decide_eq_false_iff_not, cp_neg] at h
        exact h
      · simp only [Bool.not_eq_true'] at h1 h2 ⊢
        exact swo_cp.ntrans _ _ _ h2 h1
      · by_cases h : ltOf cp b a = true
        · have := swo_cp.trans b a b
          rw [show ltOf cp a b = false by
            cases e : ltOf cp a b with
            | false => rfl
            | true => have := swo_cp.trans _ _ _ h e; rw [swo_cp.irrefl] at this; cases this]
          simp
        · simp [Bool.not_eq_true _ ▸ h]
    · rw [hp.length_eq]
      exact ownsRow_sortedK hp.length_eq hbase hb h1 h2 h3
end Go.Proofs.Ytimfgjndgfjjgaa
