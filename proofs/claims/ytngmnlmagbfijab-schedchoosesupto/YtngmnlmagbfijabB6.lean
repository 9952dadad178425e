import Derived.Test.YtngmnlmagbfijabB5
namespace Go.Proofs.Ytngmnlmagbfijab
open Go.RowKit Go.Maps Go.Sort Go.Shelf Go.Proofs
/-- a 64-bit int -/
def I64 (a : Int) : Prop := -9223372036854775808 ≤ a ∧ a ≤ 9223372036854775807
def R0 (_ : Value) : Option (DataW Unit × List MemPlace) := some (.nil, [])
theorem wf_i64 {a : Int} (h : I64 a) : (Lit.int .i64 a).wf = true := by
  unfold I64 at h
  simp [Lit.wf, IntKind.min, IntKind.max, IntKind.signed, IntKind.bits]
  omega
theorem keyOf_i {a : Int} (h : I64 a) : keyOf Try.prog 3 (.int .i64 a) = some (.int .i64 a) := by
  have := wf_i64 h
  simp [keyOf, mapKey, Try.underlying3, this]
theorem rg_x {x : MapEntry} {a : Int} (h : I64 a) (hk : x.key = .int .i64 a) : WideElems.rg Try.prog 3 R0 x = (Lit.int .i64 a, DataW.nil) := by
  unfold WideElems.rg WideElems.rd
  rw [hk, keyOf_i h]
  rfl
theorem rg_all : ∀ (l : List MapEntry) (ps : List (Int × Int)), l.map (fun e => (e.key, e.val)) = ps.map (fun p => (KU.enc p.1, Value.int .i64 p.2)) → (∀ p ∈ ps, I64 p.1) → l.map (WideElems.rg Try.prog 3 R0) = ps.map (fun p => (Lit.int .i64 p.1, DataW.nil))
  | [], [], _, _ => rfl
  | [], _ :: _, h, _ => by simp at h
  | _ :: _, [], h, _ => by simp at h
  | x :: l, p :: ps, h, hk => by
    simp only [List.map_cons, List.cons.injEq, Prod.mk.injEq] at h ⊢
    exact ⟨rg_x (hk p (List.mem_cons_self ..)) h.1.1, rg_all l ps h.2 (fun q hq => hk q (List.mem_cons_of_mem _ hq))⟩
theorem perm_keys {l : List (Lit × DataW Unit)} : (intKeys (.map (l.foldr DataW.insert []))).Perm (l.map (fun p => Go.intOf p.1)) := (WideShapes.sorted_perm _).map _
theorem Mp.owns {w : World} {r n : Nat} {f : Int → Option Int} (h : Mp w r n f) (hn : n ≤ maxLen) (hk : ∀ a, (f a).isSome = true → I64 a) :
    ∃ D : DataW Unit, w.ownsMap Try.prog 3 R0 r n D ∧ ∀ ss : List Int, ss.Perm (intKeys D) → ss.Nodup ∧ ∀ a, a ∈ ss ↔ (f a).isSome = true := by
  obtain ⟨ps, ⟨es, clock, hb, hes, hst⟩, h2, hnd, hlen⟩ := h
  have hl : es.size = ps.length := by simpa using congrArg List.length hes
  have hkp : ∀ p ∈ ps, I64 p.1 := fun p hp => hk _ (by rw [← h2]; exact atK_mem.2 (List.mem_map.2 ⟨p, hp, rfl⟩))
  have hrg : es.toList.map (WideElems.rg Try.prog 3 R0) = ps.map (fun p => (Lit.int .i64 p.1, DataW.nil)) := rg_all _ _ hes hkp
  refine ⟨_, ⟨es, clock, hb, ⟨by omega, hst, fun x hx => ?_⟩, by omega, rfl⟩, fun ss hp => ?_⟩
  · have h1 : (x.key, x.val) ∈ es.toList.map (fun e => (e.key, e.val)) := List.mem_map.2 ⟨x, hx, rfl⟩
    rw [hes, List.mem_map] at h1
    obtain ⟨p, hp, hpe⟩ := h1
    simp only [KU, Prod.mk.injEq] at hpe
    refine ⟨(.int .i64 p.1, .nil), ?_⟩
    unfold WideElems.rd
    rw [← hpe.1, keyOf_i (hkp p hp)]
    rfl
  · have hp2 : ss.Perm (ps.map Prod.fst) := by
      refine hp.trans (perm_keys.trans ?_)
      rw [hrg, List.map_map]
      exact List.Perm.of_eq (List.map_congr_left (fun _ _ => rfl))
    exact ⟨hp2.nodup_iff.2 hnd, fun a => by rw [hp2.mem_iff, ← h2]; exact atK_mem.symm⟩
theorem srt_perm (zs : List Int) : (srt zs).Perm zs := List.mergeSort_perm _ _
theorem srt_le (zs : List Int) : (srt zs).Pairwise (fun a b => a ≤ b) := by
  have := List.pairwise_mergeSort (le := fun a b : Int => decide (a ≤ b)) (fun a b c h1 h2 => by simp at *; omega) (fun a b => by simp; omega) zs
  exact this.imp (fun h => by simpa using h)
theorem srt_mem {zs : List Int} {a : Int} : a ∈ srt zs ↔ a ∈ zs := (srt_perm zs).mem_iff
theorem srt_len (zs : List Int) : (srt zs).length = zs.length := (srt_perm zs).length_eq
theorem srt_lt {zs : List Int} (h : zs.Nodup) : (srt zs).Pairwise (fun a b => a < b) := by
  have h1 : (srt zs).Nodup := (srt_perm zs).nodup_iff.2 h
  exact ((srt_le zs).and h1).imp (fun ⟨a, b⟩ => by omega)
set_option maxHeartbeats 2000000 in
theorem keys_in (w : World) (r : Nat) : CallsIn Fence.wide 5 Try.prog 29 #[.map (some r)] w fun e w' => e = .returned (.func (.func 33) #[] #[.pointer (some ⟨w.heap.size, 0, none⟩)]) ∧ w' = w.alloc (.cells #[.map (some r)] 53) :=
  AnyZI.keys_in Try.keysA Fence.wide 5 trivial rfl (some r) w
set_option maxHeartbeats 2000000 in
theorem sortedK_in (w : World) (r n : Nat) (f : Int → Option Int) (h : Mp w r n f) (hn : n ≤ 4194304) (hk : ∀ a, (f a).isSome = true → I64 a) :
    CallsIn Fence.wide 5 Try.prog 21 #[.func (.func 33) #[] #[.pointer (some ⟨w.heap.size, 0, none⟩)]] (w.alloc (.cells #[.map (some r)] 53)) fun e w' => ∃ v ks, e = .returned v ∧ Oi w' w.heap.size v ks ∧ ks.Pairwise (fun a b => a < b) ∧ (∀ a, a ∈ ks ↔ (f a).isSome = true) ∧ ks.length ≤ n ∧ Below w.heap.size w w' := by
  obtain ⟨D, hD, hss⟩ := h.owns (by unfold maxLen; omega) hk
  have hsz := hD.size_le
  have hlt := h.lt
  have hseq : SeqGives Fence.wide 2 Try.prog 33 #[.pointer (some ⟨w.heap.size, 0, none⟩)] encZ (fun ss => ss.Perm (intKeys D)) (Maps.size D) (w.alloc (.cells #[.map (some r)] 53)) :=
    AnyZI.keys_gives (ρ := Try.keysA_ren) { Try.keysA with } Fence.wide _ trivial rfl (by omega) w.heap.size r n D _ (by simp) (by simp) (hD.alloc _)
  have cS := AnyZI.sorted_in Try.sortedA Fence.wide 5 trivial trivial trivial trivial rfl (by omega) (sortsA _) (enters_of Try.func31 (by kernel_rfl) rfl) 33 #[.pointer (some ⟨w.heap.size, 0, none⟩)] trivial (enters_of Try.func33 (by kernel_rfl) rfl) _ _ (by unfold maxLen; omega) (by omega) _ hseq
  refine cS.mono ?_
  rintro e w' ⟨v, ss, rfl, hp, hrow, _, hb⟩
  obtain ⟨h1, h2⟩ := hss ss hp
  refine ⟨v, srt ss, rfl, ?_, srt_lt h1, fun a => by rw [srt_mem]; exact h2 a, ?_, ((Below.refl _ w).alloc (Nat.le_refl _) _).trans (hb.mono (by simp))⟩
  · unfold Oi
    rw [srt_len]
    exact own_low hrow (by simp)
  · rw [srt_len, hp.length_eq]
    have : (intKeys D).length = Maps.size D := by
      obtain ⟨es, clock, _, _, _, rfl⟩ := hD
      simp [intKeys, Maps.size]
    omega
end Go.Proofs.Ytngmnlmagbfijab
