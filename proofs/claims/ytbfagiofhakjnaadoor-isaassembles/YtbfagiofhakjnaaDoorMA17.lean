import Derived.Test.YtbfagiofhakjnaaDoorMA00
import Derived.Test.YtbfagiofhakjnaaDoorMA12
import Derived.Test.YtbfagiofhakjnaaDoorMA16
namespace Go.Proofs.YtbfagiofhakjnaaDoor
open Go.RowKit
section
variable (w : World)
theorem put_one (ds : List Dl) (ao : Option Addr) (cap : Nat) (d : Dl) (fo : Option Addr) (c : Nat) (ws : List Nat) (v : Value) (base : Nat) (at' : Int) {X Y : Nat} (e : Y = X) (h1 : d.words = 1) (h : Calls Tryd.prog 14 #[v, .slice ao ds.length cap, .agg (dlL d fo c).toArray, .int .i64 at'] w fun e w' => ∃ v', e = .returned v' ∧ w'.ownsRow base 46 1 v' (ws.length + 1) (wds ws ++ [.int .u32 (X : Nat)]) ∧ Below base w w') : Calls Tryd.prog 14 #[v, .slice ao ds.length cap, .agg (dlL d fo c).toArray, .int .i64 at'] w fun e w' => ∃ v', e = .returned v' ∧ w'.ownsRow base 46 1 v' (ws ++ List.replicate d.words.toNat Y).length (wds (ws ++ List.replicate d.words.toNat Y)) ∧ Below base w w' := by
  subst e
  refine h.mono ?_
  rintro e w1 ⟨v', he, ho, hb⟩
  refine ⟨v', he, ?_, hb⟩
  have e1 : (ws ++ List.replicate d.words.toNat Y).length = ws.length + 1 := by rw [h1]; simp
  have e2 : wds (ws ++ List.replicate d.words.toNat Y) = wds ws ++ [.int .u32 (Y : Nat)] := by rw [h1]; simp [wds]
  rw [e1, e2]
  exact ho
theorem isReg_two {f : Tx} (h : isReg f = true) : ∃ x y, f = [x, y] ∧ numT f = none := by
  unfold isReg at h
  obtain ⟨n, hn⟩ := Option.isSome_iff_exists.1 h
  obtain ⟨x, y, e⟩ := reg_two hn
  exact ⟨x, y, e, (reg_dig hn).2⟩
theorem rel_no2 : ∀ n : Fin 27, kd n.val = 1 → relN (n.val : Int) = false := by decide
theorem rel_noB : ∀ n : Fin 27, uB n.val = true → relN (n.val : Int) = false := by decide
theorem put_c000 (ds : List Dl) (ao : Option Addr) (cap : Nat) (d : Dl) (fo : Option Addr) (c : Nat) (ws : List Nat) (v : Value) (base : Nat) (at' : Int) (hW : ¬ d.name = [46, 119, 111, 114, 100]) (hZ : ¬ d.name = [46, 122, 101, 114, 111]) (h0 : opT d.name ≠ 0) (hA : uA (opT d.name) = false) (hB' : uB (opT d.name) = false) (hK : kd (opT d.name) = 0) (hfr : frm d.name d.fields = (d.words, true)) (hn : ws.length ≤ 512) (hS : SR w fo d.fields) (hNm : Nms w) (hO : w.ownsRow base 46 1 v ws.length (wds ws)) (hB : base ≤ w.heap.size) : Calls Tryd.prog 14 #[v, .slice ao ds.length cap, .agg (dlL d fo c).toArray, .int .i64 at'] w fun e w' => ∃ v', e = .returned v' ∧ w'.ownsRow base 46 1 v' (ws ++ List.replicate d.words.toNat (wD (adrD ds) d.name d.fields at')).length (wds (ws ++ List.replicate d.words.toNat (wD (adrD ds) d.name d.fields at'))) ∧ Below base w w' := by
  have hn2 := opT_lt d.name
  have hk : (kinds (opT d.name)).length = 0 := by unfold kinds; rw [hA, hB', hK]; rfl
  unfold frm at hfr
  rw [if_neg hW, if_neg hZ, if_neg h0, hk, hA, hB', hK] at hfr
  have hkr : kr (opT d.name) = 0 := by unfold kr; rw [hK]; rfl
  split at hfr
  · next hc =>
    have h1 : d.words = 1 := (congrArg Prod.fst hfr).symm
    simp only [Bool.not_false, Bool.true_or, Bool.and_true, beq_iff_eq] at hc
    have hlen := hc
    have hfs := List.eq_nil_of_length_eq_zero hlen
    have e : wD (adrD ds) d.name d.fields at' = encW ⟨(opT d.name : Nat), 0, 0, 0⟩ := by unfold wD nOf; rw [if_neg hW, if_neg hZ, hfs, hA, hB', hK]; simp
    exact put_one w ds ao cap d fo c ws v base at' e h1 (put_000e w ds ao cap d fo c ws v base at' (opT d.name) hW hZ rfl hn2 hA hB' hkr hfs h1 hn hS hNm hO hB)
  · have := congrArg Prod.snd hfr
    simp at this
theorem put_c001 (ds : List Dl) (ao : Option Addr) (cap : Nat) (d : Dl) (fo : Option Addr) (c : Nat) (ws : List Nat) (v : Value) (base : Nat) (at' : Int) (hW : ¬ d.name = [46, 119, 111, 114, 100]) (hZ : ¬ d.name = [46, 122, 101, 114, 111]) (h0 : opT d.name ≠ 0) (hA : uA (opT d.name) = false) (hB' : uB (opT d.name) = false) (hK : kd (opT d.name) = 1) (hfr : frm d.name d.fields = (d.words, true)) (hf : ∀ f ∈ d.fields, f.length ≤ 16384) (hn : ws.length ≤ 512) (hl : ds.length ≤ 16385) (hw : ∀ k, k ≤ ds.length → 0 ≤ ahdD ds k ∧ ahdD ds k ≤ 512 * k) (hR : DRow w ao ds) (hS : SR w fo d.fields) (hNm : Nms w) (hO : w.ownsRow base 46 1 v ws.length (wds ws)) (hB : base ≤ w.heap.size) : Calls Tryd.prog 14 #[v, .slice ao ds.length cap, .agg (dlL d fo c).toArray, .int .i64 at'] w fun e w' => ∃ v', e = .returned v' ∧ w'.ownsRow base 46 1 v' (ws ++ List.replicate d.words.toNat (wD (adrD ds) d.name d.fields at')).length (wds (ws ++ List.replicate d.words.toNat (wD (adrD ds) d.name d.fields at'))) ∧ Below base w w' := by
  have hn2 := opT_lt d.name
  have hk : (kinds (opT d.name)).length = 1 := by unfold kinds; rw [hA, hB', hK]; rfl
  unfold frm at hfr
  rw [if_neg hW, if_neg hZ, if_neg h0, hk, hA, hB', hK] at hfr
  have hkr : kr (opT d.name) = 2 := by unfold kr; rw [hK]; rfl
  split at hfr
  · next hc =>
    have h1 : d.words = 1 := (congrArg Prod.fst hfr).symm
    simp only [Bool.not_false, Bool.true_or, Bool.and_true, beq_iff_eq] at hc
    have hlen := hc
    obtain ⟨f0, hfs⟩ := List.length_eq_one_iff.1 hlen
    cases hm : numT f0 with
    | some z =>
      have e : wD (adrD ds) d.name d.fields at' = encW ⟨(opT d.name : Nat), 0, 0, z⟩ := by unfold wD nOf; rw [if_neg hW, if_neg hZ, hfs, hA, hB', hK]; simp [lastF, hm]
      exact put_one w ds ao cap d fo c ws v base at' e h1 (put_002n w ds ao cap d fo c ws v base at' (opT d.name) f0 (hf f0 (by rw [hfs]; simp)) z hm hW hZ rfl hn2 hA hB' hkr hfs h1 hn hS hNm hO hB)
    | none =>
      have hrl : relN ((opT d.name : Nat) : Int) = false := rel_no2 ⟨opT d.name, hn2⟩ hK
      have e : wD (adrD ds) d.name d.fields at' = encW ⟨(opT d.name : Nat), 0, 0, adrD ds f0⟩ := by unfold wD nOf; rw [if_neg hW, if_neg hZ, hfs, hA, hB', hK]; simp [lastF, hm, hrl]
      exact put_one w ds ao cap d fo c ws v base at' e h1 (put_002ls w ds ao cap d fo c ws v base at' (opT d.name) f0 (hf f0 (by rw [hfs]; simp)) hm hrl hW hZ rfl hn2 hA hB' hkr hfs h1 hn hl hw hR hS hNm hO hB)
  · have := congrArg Prod.snd hfr
    simp at this
theorem put_c002 (ds : List Dl) (ao : Option Addr) (cap : Nat) (d : Dl) (fo : Option Addr) (c : Nat) (ws : List Nat) (v : Value) (base : Nat) (at' : Int) (hW : ¬ d.name = [46, 119, 111, 114, 100]) (hZ : ¬ d.name = [46, 122, 101, 114, 111]) (h0 : opT d.name ≠ 0) (hA : uA (opT d.name) = false) (hB' : uB (opT d.name) = false) (hK : kd (opT d.name) = 2) (hfr : frm d.name d.fields = (d.words, true)) (hf : ∀ f ∈ d.fields, f.length ≤ 16384) (hat : 0 ≤ at' ∧ at' ≤ 512) (hn : ws.length ≤ 512) (hl : ds.length ≤ 16385) (hw : ∀ k, k ≤ ds.length → 0 ≤ ahdD ds k ∧ ahdD ds k ≤ 512 * k) (hR : DRow w ao ds) (hS : SR w fo d.fields) (hNm : Nms w) (hO : w.ownsRow base 46 1 v ws.length (wds ws)) (hB : base ≤ w.heap.size) : Calls Tryd.prog 14 #[v, .slice ao ds.length cap, .agg (dlL d fo c).toArray, .int .i64 at'] w fun e w' => ∃ v', e = .returned v' ∧ w'.ownsRow base 46 1 v' (ws ++ List.replicate d.words.toNat (wD (adrD ds) d.name d.fields at')).length (wds (ws ++ List.replicate d.words.toNat (wD (adrD ds) d.name d.fields at'))) ∧ Below base w w' := by
  have hn2 := opT_lt d.name
  have hk : (kinds (opT d.name)).length = 1 := by unfold kinds; rw [hA, hB', hK]; rfl
  unfold frm at hfr
  rw [if_neg hW, if_neg hZ, if_neg h0, hk, hA, hB', hK] at hfr
  have hkr : kr (opT d.name) = 1 := by unfold kr; rw [hK]; rfl
  split at hfr
  · next hc =>
    have h1 : d.words = 1 := (congrArg Prod.fst hfr).symm
    simp only [Bool.not_false, Bool.true_or, Bool.and_true, beq_iff_eq] at hc
    have hlen := hc
    obtain ⟨f0, hfs⟩ := List.length_eq_one_iff.1 hlen
    cases hm : numT f0 with
    | some z =>
      have e : wD (adrD ds) d.name d.fields at' = encW ⟨(opT d.name : Nat), 0, 0, z⟩ := by unfold wD nOf; rw [if_neg hW, if_neg hZ, hfs, hA, hB', hK]; simp [lastF, hm]
      exact put_one w ds ao cap d fo c ws v base at' e h1 (put_001n w ds ao cap d fo c ws v base at' (opT d.name) f0 (hf f0 (by rw [hfs]; simp)) z hm hW hZ rfl hn2 hA hB' hkr hfs h1 hn hS hNm hO hB)
    | none =>
      cases hrl : relN ((opT d.name : Nat) : Int) with
      | false =>
        have e : wD (adrD ds) d.name d.fields at' = encW ⟨(opT d.name : Nat), 0, 0, adrD ds f0⟩ := by unfold wD nOf; rw [if_neg hW, if_neg hZ, hfs, hA, hB', hK]; simp [lastF, hm, hrl]
        exact put_one w ds ao cap d fo c ws v base at' e h1 (put_001ls w ds ao cap d fo c ws v base at' (opT d.name) f0 (hf f0 (by rw [hfs]; simp)) hm hrl hW hZ rfl hn2 hA hB' hkr hfs h1 hn hl hw hR hS hNm hO hB)
      | true =>
        have e : wD (adrD ds) d.name d.fields at' = encW ⟨(opT d.name : Nat), 0, 0, adrD ds f0 - at' - 1⟩ := by unfold wD nOf; rw [if_neg hW, if_neg hZ, hfs, hA, hB', hK]; simp [lastF, hm, hrl]
        exact put_one w ds ao cap d fo c ws v base at' e h1 (put_001lr w ds ao cap d fo c ws v base at' (opT d.name) f0 (hf f0 (by rw [hfs]; simp)) hm hrl hat hW hZ rfl hn2 hA hB' hkr hfs h1 hn hl hw hR hS hNm hO hB)
  · have := congrArg Prod.snd hfr
    simp at this
theorem put_c100 (ds : List Dl) (ao : Option Addr) (cap : Nat) (d : Dl) (fo : Option Addr) (c : Nat) (ws : List Nat) (v : Value) (base : Nat) (at' : Int) (hW : ¬ d.name = [46, 119, 111, 114, 100]) (hZ : ¬ d.name = [46, 122, 101, 114, 111]) (h0 : opT d.name ≠ 0) (hA : uA (opT d.name) = true) (hB' : uB (opT d.name) = false) (hK : kd (opT d.name) = 0) (hfr : frm d.name d.fields = (d.words, true)) (hf : ∀ f ∈ d.fields, f.length ≤ 16384) (hn : ws.length ≤ 512) (hl : ds.length ≤ 16385) (hw : ∀ k, k ≤ ds.length → 0 ≤ ahdD ds k ∧ ahdD ds k ≤ 512 * k) (hR : DRow w ao ds) (hS : SR w fo d.fields) (hNm : Nms w) (hO : w.ownsRow base 46 1 v ws.length (wds ws)) (hB : base ≤ w.heap.size) : Calls Tryd.prog 14 #[v, .slice ao ds.length cap, .agg (dlL d fo c).toArray, .int .i64 at'] w fun e w' => ∃ v', e = .returned v' ∧ w'.ownsRow base 46 1 v' (ws ++ List.replicate d.words.toNat (wD (adrD ds) d.name d.fields at')).length (wds (ws ++ List.replicate d.words.toNat (wD (adrD ds) d.name d.fields at'))) ∧ Below base w w' := by
  have hn2 := opT_lt d.name
  have hk : (kinds (opT d.name)).length = 1 := by unfold kinds; rw [hA, hB', hK]; rfl
  unfold frm at hfr
  rw [if_neg hW, if_neg hZ, if_neg h0, hk, hA, hB', hK] at hfr
  have hkr : kr (opT d.name) = 0 := by unfold kr; rw [hK]; rfl
  split at hfr
  · next hc =>
    have h1 : d.words = 1 := (congrArg Prod.fst hfr).symm
    simp only [Bool.not_true, Bool.not_false, Bool.false_or, Bool.true_or, Bool.and_true, Bool.and_eq_true, beq_iff_eq] at hc
    obtain ⟨hlen, r0⟩ := hc
    obtain ⟨f0, hfs⟩ := List.length_eq_one_iff.1 hlen
    rw [hfs] at r0
    obtain ⟨x0, y0, e0, m0⟩ := isReg_two (show isReg f0 = true from r0)
    have e : wD (adrD ds) d.name d.fields at' = encW ⟨(opT d.name : Nat), ((y0.toNat : Int) - 48) % 256, 0, 0⟩ := by subst e0; unfold wD nOf; rw [if_neg hW, if_neg hZ, hfs, hA, hB', hK]; simp [rdig]
    exact put_one w ds ao cap d fo c ws v base at' e h1 (put_100r w ds ao cap d fo c ws v base at' (opT d.name) f0 x0 y0 e0 (hf f0 (by rw [hfs]; simp)) m0 hW hZ rfl hn2 hA hB' hkr hfs h1 hn hl hw hR hS hNm hO hB)
  · have := congrArg Prod.snd hfr
    simp at this
theorem put_c101 (ds : List Dl) (ao : Option Addr) (cap : Nat) (d : Dl) (fo : Option Addr) (c : Nat) (ws : List Nat) (v : Value) (base : Nat) (at' : Int) (hW : ¬ d.name = [46, 119, 111, 114, 100]) (hZ : ¬ d.name = [46, 122, 101, 114, 111]) (h0 : opT d.name ≠ 0) (hA : uA (opT d.name) = true) (hB' : uB (opT d.name) = false) (hK : kd (opT d.name) = 1) (hfr : frm d.name d.fields = (d.words, true)) (hf : ∀ f ∈ d.fields, f.length ≤ 16384) (hn : ws.length ≤ 512) (hl : ds.length ≤ 16385) (hw : ∀ k, k ≤ ds.length → 0 ≤ ahdD ds k ∧ ahdD ds k ≤ 512 * k) (hR : DRow w ao ds) (hS : SR w fo d.fields) (hNm : Nms w) (hO : w.ownsRow base 46 1 v ws.length (wds ws)) (hB : base ≤ w.heap.size) : Calls Tryd.prog 14 #[v, .slice ao ds.length cap, .agg (dlL d fo c).toArray, .int .i64 at'] w fun e w' => ∃ v', e = .returned v' ∧ w'.ownsRow base 46 1 v' (ws ++ List.replicate d.words.toNat (wD (adrD ds) d.name d.fields at')).length (wds (ws ++ List.replicate d.words.toNat (wD (adrD ds) d.name d.fields at'))) ∧ Below base w w' := by
  have hn2 := opT_lt d.name
  have hk : (kinds (opT d.name)).length = 2 := by unfold kinds; rw [hA, hB', hK]; rfl
  unfold frm at hfr
  rw [if_neg hW, if_neg hZ, if_neg h0, hk, hA, hB', hK] at hfr
  have hkr : kr (opT d.name) = 2 := by unfold kr; rw [hK]; rfl
  split at hfr
  · next hc =>
    have h1 : d.words = 1 := (congrArg Prod.fst hfr).symm
    simp only [Bool.not_true, Bool.not_false, Bool.false_or, Bool.true_or, Bool.and_true, Bool.and_eq_true, beq_iff_eq] at hc
    obtain ⟨hlen, r0⟩ := hc
    obtain ⟨f0, f1, hfs⟩ := len2 hlen
    rw [hfs] at r0
    obtain ⟨x0, y0, e0, m0⟩ := isReg_two (show isReg f0 = true from r0)
    cases hm : numT f1 with
    | some z =>
      have e : wD (adrD ds) d.name d.fields at' = encW ⟨(opT d.name : Nat), ((y0.toNat : Int) - 48) % 256, 0, z⟩ := by subst e0; unfold wD nOf; rw [if_neg hW, if_neg hZ, hfs, hA, hB', hK]; simp [rdig, lastF, hm]
      exact put_one w ds ao cap d fo c ws v base at' e h1 (put_102n w ds ao cap d fo c ws v base at' (opT d.name) f0 f1 x0 y0 e0 (hf f1 (by rw [hfs]; simp)) z hm hW hZ rfl hn2 hA hB' hkr hfs h1 hn hS hNm hO hB)
    | none =>
      have hrl : relN ((opT d.name : Nat) : Int) = false := rel_no2 ⟨opT d.name, hn2⟩ hK
      have e : wD (adrD ds) d.name d.fields at' = encW ⟨(opT d.name : Nat), ((y0.toNat : Int) - 48) % 256, 0, adrD ds f1⟩ := by subst e0; unfold wD nOf; rw [if_neg hW, if_neg hZ, hfs, hA, hB', hK]; simp [rdig, lastF, hm, hrl]
      exact put_one w ds ao cap d fo c ws v base at' e h1 (put_102ls w ds ao cap d fo c ws v base at' (opT d.name) f0 f1 x0 y0 e0 (hf f1 (by rw [hfs]; simp)) hm hrl hW hZ rfl hn2 hA hB' hkr hfs h1 hn hl hw hR hS hNm hO hB)
  · have := congrArg Prod.snd hfr
    simp at this
theorem put_c102 (ds : List Dl) (ao : Option Addr) (cap : Nat) (d : Dl) (fo : Option Addr) (c : Nat) (ws : List Nat) (v : Value) (base : Nat) (at' : Int) (hW : ¬ d.name = [46, 119, 111, 114, 100]) (hZ : ¬ d.name = [46, 122, 101, 114, 111]) (h0 : opT d.name ≠ 0) (hA : uA (opT d.name) = true) (hB' : uB (opT d.name) = false) (hK : kd (opT d.name) = 2) (hfr : frm d.name d.fields = (d.words, true)) (hf : ∀ f ∈ d.fields, f.length ≤ 16384) (hat : 0 ≤ at' ∧ at' ≤ 512) (hn : ws.length ≤ 512) (hl : ds.length ≤ 16385) (hw : ∀ k, k ≤ ds.length → 0 ≤ ahdD ds k ∧ ahdD ds k ≤ 512 * k) (hR : DRow w ao ds) (hS : SR w fo d.fields) (hNm : Nms w) (hO : w.ownsRow base 46 1 v ws.length (wds ws)) (hB : base ≤ w.heap.size) : Calls Tryd.prog 14 #[v, .slice ao ds.length cap, .agg (dlL d fo c).toArray, .int .i64 at'] w fun e w' => ∃ v', e = .returned v' ∧ w'.ownsRow base 46 1 v' (ws ++ List.replicate d.words.toNat (wD (adrD ds) d.name d.fields at')).length (wds (ws ++ List.replicate d.words.toNat (wD (adrD ds) d.name d.fields at'))) ∧ Below base w w' := by
  have hn2 := opT_lt d.name
  have hk : (kinds (opT d.name)).length = 2 := by unfold kinds; rw [hA, hB', hK]; rfl
  unfold frm at hfr
  rw [if_neg hW, if_neg hZ, if_neg h0, hk, hA, hB', hK] at hfr
  have hkr : kr (opT d.name) = 1 := by unfold kr; rw [hK]; rfl
  split at hfr
  · next hc =>
    have h1 : d.words = 1 := (congrArg Prod.fst hfr).symm
    simp only [Bool.not_true, Bool.not_false, Bool.false_or, Bool.true_or, Bool.and_true, Bool.and_eq_true, beq_iff_eq] at hc
    obtain ⟨hlen, r0⟩ := hc
    obtain ⟨f0, f1, hfs⟩ := len2 hlen
    rw [hfs] at r0
    obtain ⟨x0, y0, e0, m0⟩ := isReg_two (show isReg f0 = true from r0)
    cases hm : numT f1 with
    | some z =>
      have e : wD (adrD ds) d.name d.fields at' = encW ⟨(opT d.name : Nat), ((y0.toNat : Int) - 48) % 256, 0, z⟩ := by subst e0; unfold wD nOf; rw [if_neg hW, if_neg hZ, hfs, hA, hB', hK]; simp [rdig, lastF, hm]
      exact put_one w ds ao cap d fo c ws v base at' e h1 (put_101n w ds ao cap d fo c ws v base at' (opT d.name) f0 f1 x0 y0 e0 (hf f1 (by rw [hfs]; simp)) z hm hW hZ rfl hn2 hA hB' hkr hfs h1 hn hS hNm hO hB)
    | none =>
      cases hrl : relN ((opT d.name : Nat) : Int) with
      | false =>
        have e : wD (adrD ds) d.name d.fields at' = encW ⟨(opT d.name : Nat), ((y0.toNat : Int) - 48) % 256, 0, adrD ds f1⟩ := by subst e0; unfold wD nOf; rw [if_neg hW, if_neg hZ, hfs, hA, hB', hK]; simp [rdig, lastF, hm, hrl]
        exact put_one w ds ao cap d fo c ws v base at' e h1 (put_101ls w ds ao cap d fo c ws v base at' (opT d.name) f0 f1 x0 y0 e0 (hf f1 (by rw [hfs]; simp)) hm hrl hW hZ rfl hn2 hA hB' hkr hfs h1 hn hl hw hR hS hNm hO hB)
      | true =>
        have e : wD (adrD ds) d.name d.fields at' = encW ⟨(opT d.name : Nat), ((y0.toNat : Int) - 48) % 256, 0, adrD ds f1 - at' - 1⟩ := by subst e0; unfold wD nOf; rw [if_neg hW, if_neg hZ, hfs, hA, hB', hK]; simp [rdig, lastF, hm, hrl]
        exact put_one w ds ao cap d fo c ws v base at' e h1 (put_101lr w ds ao cap d fo c ws v base at' (opT d.name) f0 f1 x0 y0 e0 (hf f1 (by rw [hfs]; simp)) hm hrl hat hW hZ rfl hn2 hA hB' hkr hfs h1 hn hl hw hR hS hNm hO hB)
  · have := congrArg Prod.snd hfr
    simp at this
theorem put_c110 (ds : List Dl) (ao : Option Addr) (cap : Nat) (d : Dl) (fo : Option Addr) (c : Nat) (ws : List Nat) (v : Value) (base : Nat) (at' : Int) (hW : ¬ d.name = [46, 119, 111, 114, 100]) (hZ : ¬ d.name = [46, 122, 101, 114, 111]) (h0 : opT d.name ≠ 0) (hA : uA (opT d.name) = true) (hB' : uB (opT d.name) = true) (hK : kd (opT d.name) = 0) (hfr : frm d.name d.fields = (d.words, true)) (hf : ∀ f ∈ d.fields, f.length ≤ 16384) (hn : ws.length ≤ 512) (hl : ds.length ≤ 16385) (hw : ∀ k, k ≤ ds.length → 0 ≤ ahdD ds k ∧ ahdD ds k ≤ 512 * k) (hR : DRow w ao ds) (hS : SR w fo d.fields) (hNm : Nms w) (hO : w.ownsRow base 46 1 v ws.length (wds ws)) (hB : base ≤ w.heap.size) : Calls Tryd.prog 14 #[v, .slice ao ds.length cap, .agg (dlL d fo c).toArray, .int .i64 at'] w fun e w' => ∃ v', e = .returned v' ∧ w'.ownsRow base 46 1 v' (ws ++ List.replicate d.words.toNat (wD (adrD ds) d.name d.fields at')).length (wds (ws ++ List.replicate d.words.toNat (wD (adrD ds) d.name d.fields at'))) ∧ Below base w w' := by
  have hn2 := opT_lt d.name
  have hk : (kinds (opT d.name)).length = 2 := by unfold kinds; rw [hA, hB', hK]; rfl
  unfold frm at hfr
  rw [if_neg hW, if_neg hZ, if_neg h0, hk, hA, hB', hK] at hfr
  have hkr : kr (opT d.name) = 0 := by unfold kr; rw [hK]; rfl
  split at hfr
  · next hc =>
    have h1 : d.words = 1 := (congrArg Prod.fst hfr).symm
    simp only [Bool.not_true, Bool.false_or, Bool.and_eq_true, beq_iff_eq] at hc
    obtain ⟨⟨hlen, r0⟩, r1⟩ := hc
    obtain ⟨f0, f1, hfs⟩ := len2 hlen
    rw [hfs] at r0
    obtain ⟨x0, y0, e0, m0⟩ := isReg_two (show isReg f0 = true from r0)
    rw [hfs] at r1
    obtain ⟨x1, y1, e1, m1⟩ := isReg_two (show isReg f1 = true from r1)
    have e : wD (adrD ds) d.name d.fields at' = encW ⟨(opT d.name : Nat), ((y0.toNat : Int) - 48) % 256, ((y1.toNat : Int) - 48) % 256, 0⟩ := by subst e0; subst e1; unfold wD nOf; rw [if_neg hW, if_neg hZ, hfs, hA, hB', hK]; simp [rdig]
    exact put_one w ds ao cap d fo c ws v base at' e h1 (put_110r w ds ao cap d fo c ws v base at' (opT d.name) f0 f1 x0 y0 e0 x1 y1 e1 (hf f1 (by rw [hfs]; simp)) m1 hW hZ rfl hn2 hA hB' hkr hfs h1 hn hl hw hR hS hNm hO hB)
  · have := congrArg Prod.snd hfr
    simp at this
theorem put_c112 (ds : List Dl) (ao : Option Addr) (cap : Nat) (d : Dl) (fo : Option Addr) (c : Nat) (ws : List Nat) (v : Value) (base : Nat) (at' : Int) (hW : ¬ d.name = [46, 119, 111, 114, 100]) (hZ : ¬ d.name = [46, 122, 101, 114, 111]) (h0 : opT d.name ≠ 0) (hA : uA (opT d.name) = true) (hB' : uB (opT d.name) = true) (hK : kd (opT d.name) = 2) (hfr : frm d.name d.fields = (d.words, true)) (hf : ∀ f ∈ d.fields, f.length ≤ 16384) (hn : ws.length ≤ 512) (hl : ds.length ≤ 16385) (hw : ∀ k, k ≤ ds.length → 0 ≤ ahdD ds k ∧ ahdD ds k ≤ 512 * k) (hR : DRow w ao ds) (hS : SR w fo d.fields) (hNm : Nms w) (hO : w.ownsRow base 46 1 v ws.length (wds ws)) (hB : base ≤ w.heap.size) : Calls Tryd.prog 14 #[v, .slice ao ds.length cap, .agg (dlL d fo c).toArray, .int .i64 at'] w fun e w' => ∃ v', e = .returned v' ∧ w'.ownsRow base 46 1 v' (ws ++ List.replicate d.words.toNat (wD (adrD ds) d.name d.fields at')).length (wds (ws ++ List.replicate d.words.toNat (wD (adrD ds) d.name d.fields at'))) ∧ Below base w w' := by
  have hn2 := opT_lt d.name
  have hk : (kinds (opT d.name)).length = 3 := by unfold kinds; rw [hA, hB', hK]; rfl
  unfold frm at hfr
  rw [if_neg hW, if_neg hZ, if_neg h0, hk, hA, hB', hK] at hfr
  have hkr : kr (opT d.name) = 1 := by unfold kr; rw [hK]; rfl
  split at hfr
  · next hc =>
    have h1 : d.words = 1 := (congrArg Prod.fst hfr).symm
    simp only [Bool.not_true, Bool.false_or, Bool.and_eq_true, beq_iff_eq] at hc
    obtain ⟨⟨hlen, r0⟩, r1⟩ := hc
    obtain ⟨f0, f1, f2, hfs⟩ := len3 hlen
    rw [hfs] at r0
    obtain ⟨x0, y0, e0, m0⟩ := isReg_two (show isReg f0 = true from r0)
    rw [hfs] at r1
    obtain ⟨x1, y1, e1, m1⟩ := isReg_two (show isReg f1 = true from r1)
    cases hm : numT f2 with
    | some z =>
      have e : wD (adrD ds) d.name d.fields at' = encW ⟨(opT d.name : Nat), ((y0.toNat : Int) - 48) % 256, ((y1.toNat : Int) - 48) % 256, z⟩ := by subst e0; subst e1; unfold wD nOf; rw [if_neg hW, if_neg hZ, hfs, hA, hB', hK]; simp [rdig, lastF, hm]
      exact put_one w ds ao cap d fo c ws v base at' e h1 (put_111n w ds ao cap d fo c ws v base at' (opT d.name) f0 f1 f2 x0 y0 e0 x1 y1 e1 (hf f2 (by rw [hfs]; simp)) z hm hW hZ rfl hn2 hA hB' hkr hfs h1 hn hS hNm hO hB)
    | none =>
      have hrl : relN ((opT d.name : Nat) : Int) = false := rel_noB ⟨opT d.name, hn2⟩ hB'
      have e : wD (adrD ds) d.name d.fields at' = encW ⟨(opT d.name : Nat), ((y0.toNat : Int) - 48) % 256, ((y1.toNat : Int) - 48) % 256, adrD ds f2⟩ := by subst e0; subst e1; unfold wD nOf; rw [if_neg hW, if_neg hZ, hfs, hA, hB', hK]; simp [rdig, lastF, hm, hrl]
      exact put_one w ds ao cap d fo c ws v base at' e h1 (put_111ls w ds ao cap d fo c ws v base at' (opT d.name) f0 f1 f2 x0 y0 e0 x1 y1 e1 (hf f2 (by rw [hfs]; simp)) hm hrl hW hZ rfl hn2 hA hB' hkr hfs h1 hn hl hw hR hS hNm hO hB)
  · have := congrArg Prod.snd hfr
    simp at this
theorem put_any (ds : List Dl) (ao : Option Addr) (cap : Nat) (d : Dl) (fo : Option Addr) (c : Nat) (ws : List Nat) (v : Value) (base : Nat) (at' : Int) (hfr : d.words = 0 ∨ frm d.name d.fields = (d.words, true)) (hf : ∀ f ∈ d.fields, f.length ≤ 16384) (hat : 0 ≤ at' ∧ at' ≤ 512) (hn : ws.length ≤ 512) (hl : ds.length ≤ 16385) (hw : ∀ k, k ≤ ds.length → 0 ≤ ahdD ds k ∧ ahdD ds k ≤ 512 * k) (hR : DRow w ao ds) (hS : SR w fo d.fields) (hNm : Nms w) (hO : w.ownsRow base 46 1 v ws.length (wds ws)) (hB : base ≤ w.heap.size) : Calls Tryd.prog 14 #[v, .slice ao ds.length cap, .agg (dlL d fo c).toArray, .int .i64 at'] w fun e w' => ∃ v', e = .returned v' ∧ w'.ownsRow base 46 1 v' (ws ++ List.replicate d.words.toNat (wD (adrD ds) d.name d.fields at')).length (wds (ws ++ List.replicate d.words.toNat (wD (adrD ds) d.name d.fields at'))) ∧ Below base w w' := by
  by_cases hz : d.words = 0
  · have := put_zip w ds ao cap d fo c ws v base at' hz hO hB
    rw [hz]
    simpa using this
  have hfr := hfr.resolve_left hz
  by_cases hW : d.name = [46, 119, 111, 114, 100]
  · have e2 := hfr
    unfold frm at e2
    rw [if_pos hW] at e2
    have h1 : d.words = 1 := (congrArg Prod.fst e2).symm
    have h2 := congrArg Prod.snd e2
    simp only [Bool.and_eq_true, beq_iff_eq] at h2
    obtain ⟨f, hfs⟩ := List.length_eq_one_iff.1 h2.1
    have h3 := put_word w ds ao cap d fo c ws v base at' f hW hfs (hf f (by rw [hfs]; simp)) h1 hn hl hw hR hS hO hB
    have e : wD (adrD ds) d.name d.fields at' = (((numT f).getD (adrD ds f)) % 4294967296).toNat := by unfold wD nOf; rw [if_pos hW, hfs]; simp [lastF]
    refine put_one w ds ao cap d fo c ws v base at' e h1 ?_
    rw [show (((((numT f).getD (adrD ds f)) % 4294967296).toNat : Nat) : Int) = ((numT f).getD (adrD ds f)) % 4294967296 by omega]
    exact h3
  by_cases hZ : d.name = [46, 122, 101, 114, 111]
  · have e2 := hfr
    unfold frm at e2
    rw [if_neg hW, if_pos hZ] at e2
    split at e2
    · next hc =>
      simp only [Bool.and_eq_true, beq_iff_eq] at hc
      obtain ⟨f, hfs⟩ := List.length_eq_one_iff.1 hc.1
      have hk := hc.2
      rw [hfs] at hk e2
      have hk : fok f 0 512 false = true := hk
      have e3 : (numT f).getD 0 = d.words := congrArg Prod.fst e2
      unfold fok at hk
      cases hm : numT f with
      | none => rw [hm] at hk; simp at hk
      | some z =>
        rw [hm] at hk e3
        simp only [Bool.and_eq_true, decide_eq_true_eq] at hk
        have e4 : d.words = z := e3.symm
        have h3 := put_zero w ds ao cap d fo c ws v base at' f z hZ hfs (hf f (by rw [hfs]; simp)) hm e4 (by omega) hk.2 hn hS hO hB
        have e : wD (adrD ds) d.name d.fields at' = 0 := by unfold wD; rw [if_neg hW, if_pos hZ]
        rw [e, e4]
        exact h3
    · have := congrArg Prod.snd e2
      simp at this
  by_cases h0 : opT d.name = 0
  · unfold frm at hfr
    rw [if_neg hW, if_neg hZ, if_pos h0] at hfr
    have := congrArg Prod.snd hfr
    simp at this
  rcases combos (opT d.name) (by omega) (opT_lt d.name) with h | h | h | h | h | h | h | h
  · exact put_c000 w ds ao cap d fo c ws v base at' hW hZ h0 h.1 h.2.1 h.2.2 hfr hn hS hNm hO hB
  · exact put_c001 w ds ao cap d fo c ws v base at' hW hZ h0 h.1 h.2.1 h.2.2 hfr hf hn hl hw hR hS hNm hO hB
  · exact put_c002 w ds ao cap d fo c ws v base at' hW hZ h0 h.1 h.2.1 h.2.2 hfr hf hat hn hl hw hR hS hNm hO hB
  · exact put_c100 w ds ao cap d fo c ws v base at' hW hZ h0 h.1 h.2.1 h.2.2 hfr hf hn hl hw hR hS hNm hO hB
  · exact put_c101 w ds ao cap d fo c ws v base at' hW hZ h0 h.1 h.2.1 h.2.2 hfr hf hn hl hw hR hS hNm hO hB
  · exact put_c102 w ds ao cap d fo c ws v base at' hW hZ h0 h.1 h.2.1 h.2.2 hfr hf hat hn hl hw hR hS hNm hO hB
  · exact put_c110 w ds ao cap d fo c ws v base at' hW hZ h0 h.1 h.2.1 h.2.2 hfr hf hn hl hw hR hS hNm hO hB
  · exact put_c112 w ds ao cap d fo c ws v base at' hW hZ h0 h.1 h.2.1 h.2.2 hfr hf hn hl hw hR hS hNm hO hB
end
end Go.Proofs.YtbfagiofhakjnaaDoor

namespace Go.Proofs.YtbfagiofhakjnaaDoor
open Go.RowKit
section
variable (w : World)
set_option maxRecDepth 100000 in
set_option maxHeartbeats 1000000 in
theorem pieces_any (l : Tx) (m : UInt8) (hl : l.length ≤ 16384) : Calls Tryd.prog 11 #[.string ⟨l.toArray⟩, .int .u8 (m.toNat : Nat)] w fun e w' => ∃ v, e = .returned v ∧ w'.ownsRow w.heap.size 9 1 v (splitT m l).length (strs (splitT m l)) ∧ Below w.heap.size w w' := by
  obtain ⟨i9, hi, hz, hs, hb⟩ := info_str
  go_enter Tryd.func11, Tryd.ntmps11
  go_upto_region 4 with fail
  go_loopw [5, 6, 7] (fun v u p wr => ∃ (pos f : Nat) (ps : List Tx), u = .int .i64 (f : Int) ∧ p = .int .i64 (pos : Int) ∧ f ≤ pos ∧ pos ≤ l.length ∧ ps.length ≤ f ∧ Hid (splitT m l = ps ++ splitT m (l.drop f)) ∧ Hid (∀ j (hj : j < l.length), f ≤ j → j < pos → (l[j] == m) = false) ∧ Hid (wr.ownsRow w.heap.size 9 1 v ps.length (strs ps)) ∧ Hid (Below w.heap.size w wr)) (fun _ _ p _ => l.length - (intOf p).toNat)
  case atStart => exact ⟨0, 0, [], rfl, rfl, by omega, by omega, by simp, hide rfl, hide (fun j _ _ h => by omega), hide ⟨rfl, .inl ⟨rfl, rfl⟩⟩, hide (Below.refl _ _)⟩
  case round =>
  obtain ⟨pos, f, ps, rfl, rfl, hf, hp, hpl, HSp, HN, HO, HB⟩ := hrel
  obtain ⟨au, cu, hsh⟩ := own_shape HO.out
  subst hsh
  by_cases hlt : pos < l.length
  · have hltI : (pos : Int) < (l.length : Int) := by omega
    obtain ⟨c, hc⟩ : ∃ c, l[pos] = c := ⟨_, rfl⟩
    have hg : (⟨l.toArray⟩ : ByteArray)[pos]'hlt = c := hc
    by_cases hcm : c = m
    · have HP2 : Hid (splitT m l = (ps ++ [(l.take pos).drop f]) ++ splitT m (l.drop (pos + 1))) := hide (by
        rw [HSp.out, piece_eq hf hlt, hc, hcm, split_mark m _ _ (piece_no HN.out)]
        simp)
      have e1 := ext_mk l f pos
      have hcm2 : ((c.toNat : Int) == (m.toNat : Int)) = true := by rw [hcm]; simp
      have hfI : (f : Int) ≤ (pos : Int) := by omega
      have hpI : (pos : Int) ≤ (l.length : Int) := by omega
      clear HSp hcm
      go_upto_region 8 with (at_builtin; refine wpList_append_own _ rfl _ _ 38 rfl w.heap.size 9 i9 (.string ⟨#[]⟩) 1 16 Tryd.underlying38 hi hz hs hb rfl (by decide) _ _ _ rfl (HO.out.alloc _) ⟨_, 0, none⟩ 1 1 [.string ⟨((l.take pos).drop f).toArray⟩] rfl rfl (cell_one_new _ _ _) (by simp [Value.oneCell']) (by unfold maxLen; omega) (by omega) (by have := HB.out.size; simp; omega) ?_; intro v2 w2 ho2 hg2 _; obtain ⟨a2, c2, rfl⟩ := own_shape ho2)
      have HO2 : Hid (w2.ownsRow w.heap.size 9 1 (.slice a2 (ps.length + 1) c2) (ps ++ [(l.take pos).drop f]).length (strs (ps ++ [(l.take pos).drop f]))) := hide (by simpa [strs] using ho2)
      have HBx : Hid (Below w.heap.size wr w2) := hide (((Below.refl _ wr).alloc HB.out.size _).grown hg2 (by have := HB.out.size; simp; omega) (fun j hj => (HO.out.lt j hj).1))
      have HB2 := hide (HB.out.trans HBx.out)
      clear ho2 hg2 HO HB HBx
      go_wp2
      refine ⟨⟨pos + 1, pos + 1, ps ++ [(l.take pos).drop f], by simp, by simp, by omega, by omega, by simp; omega, HP2, hide (fun j hj h1 h2 => by omega), HO2, HB2⟩, ?_⟩
      simp [intOf]
      omega
    · have hcm2 : ((c.toNat : Int) == (m.toNat : Int)) = false := by
        rw [beq_eq_false_iff_ne]
        intro e
        exact hcm (UInt8.toNat_inj.1 (by omega))
      have HN2 : Hid (∀ j (hj : j < l.length), f ≤ j → j < pos + 1 → (l[j] == m) = false) := hide (fun j hj h1 h2 => by
        by_cases hjp : j = pos
        · subst hjp; rw [hc, beq_eq_false_iff_ne]; exact hcm
        · exact HN.out j hj h1 (by omega))
      clear HN hcm
      go_wp2
      refine ⟨⟨pos + 1, f, ps, rfl, by simp, by omega, by omega, hpl, HSp, HN2, HO, HB⟩, ?_⟩
      simp [intOf]
      omega
  · have hltI : ¬ (pos : Int) < (l.length : Int) := by omega
    obtain rfl : pos = l.length := by omega
    have HSe : Hid (splitT m l = ps ++ [l.drop f]) := hide (by
      rw [HSp.out, split_end m (l.drop f) (fun x hx => by
        have := piece_no (l := l) (f := f) (pos := l.length) HN.out
        rw [List.take_length] at this
        exact this x hx)])
    have e1 := ext_mk l f l.length
    rw [List.take_length] at e1
    have hfI : (f : Int) ≤ (l.length : Int) := by omega
    clear HN HSp
    go_wp2_with (at_builtin; refine wpList_append_own _ rfl _ _ 38 rfl w.heap.size 9 i9 (.string ⟨#[]⟩) 1 16 Tryd.underlying38 hi hz hs hb rfl (by decide) _ _ _ rfl (HO.out.alloc _) ⟨_, 0, none⟩ 1 1 [.string ⟨(l.drop f).toArray⟩] rfl rfl (cell_one_new _ _ _) (by simp [Value.oneCell']) (by unfold maxLen; omega) (by omega) (by have := HB.out.size; simp; omega) ?_; intro v2 w2 ho2 hg2 _; obtain ⟨a2, c2, rfl⟩ := own_shape ho2)
    have HO2 : Hid (w2.ownsRow w.heap.size 9 1 (.slice a2 (ps.length + 1) c2) (splitT m l).length (strs (splitT m l))) := hide (by rw [HSe.out]; simpa [strs] using ho2)
    have HBx : Hid (Below w.heap.size wr w2) := hide (((Below.refl _ wr).alloc HB.out.size _).grown hg2 (by have := HB.out.size; simp; omega) (fun j hj => (HO.out.lt j hj).1))
    have HB2 := hide (HB.out.trans HBx.out)
    clear ho2 hg2 HO HB HBx
    go_wp2
    go_ret
    exact ⟨_, rfl, HO2.out, HB2.out⟩
end
end Go.Proofs.YtbfagiofhakjnaaDoor

namespace Go.Proofs.YtbfagiofhakjnaaDoor
open Go.RowKit
section
variable {P : Program} {ops : Array Oper} {Q : Exit → Act → World → Prop} {S : World → Prop} {fuel : Nat} {listed : Array Bool} {a : Act} {w : World}
/-- a store of a whole struct, the one operation that may come up -/
theorem held_store (i : Nat) {o : Oper} (hr : Region.ready .any ops listed = [i]) (ho : ops[i]? = some o) (hw : Region.wanted o (yielded ops a.tmps) = true) {ty : TypeId} {x y : Operand} (hop : o.op = .store ty x y) (hd : o.dst = none)
    {b off : Nat} {cells : List Value} (hx : a.eval x = .pointer (some ⟨b, off, none⟩)) (hy : a.eval y = .agg cells.toArray) (ht : w.there b off cells.length) (hi : (P.info? ty).map (·.size) = some cells.length) (h1 : ∀ v ∈ cells, v.oneCell' = true)
    (hS : S (w.setCells b off cells)) (h : wpAnyH P .any ops Q S fuel (listed.setIfInBounds i true) a (w.setCells b off cells)) : wpAnyH P .any ops Q S (fuel + 1) listed a w := by
  refine wpAnyH_ready hr (by simp) (AllReadyH.cons ho (fun K hK => ?_) AllReadyH.nil)
  rw [if_pos hw]
  refine wp_store_mid ty x y hop b off cells.toArray hx hy (by simpa using ht) (by simpa using hi) (all_oneCell_toArray h1) ?_
  rw [hd]
  exact hK.out _ _ hS (fun _ => h)
/-- a call, the one operation that may come up -/
theorem held_call (i : Nat) {o : Oper} (hr : Region.ready .any ops listed = [i]) (ho : ops[i]? = some o) (hw : Region.wanted o (yielded ops a.tmps) = true)
    (h : ∀ K : Act → World → Prop, (∀ a w, S w → wpAnyH P .any ops Q S fuel (listed.setIfInBounds i true) a w → K a w) → Oper.wp P o a w K Q) : wpAnyH P .any ops Q S (fuel + 1) listed a w := by
  refine wpAnyH_ready hr (by simp) (AllReadyH.cons ho (fun K hK => ?_) AllReadyH.nil)
  rw [if_pos hw]
  exact h K (fun a w hS hh => hK.out a w hS (fun _ => hh))
theorem held_load (i : Nat) {o : Oper} (hs : Region.noSelect ops = true) (hf : Region.free .any ops listed i = true) (hr : (Region.ready .any ops listed).contains i = true) (ho : ops[i]? = some o) (hw : Region.wanted o (yielded ops a.tmps) = true) {ty : TypeId} {x : Operand} (hop : o.op = .load ty x)
    {b off : Nat} (cs : List Value) {d : TypeDesc} (hx : a.eval x = .pointer (some ⟨b, off, none⟩)) (hS : ∀ w, S w → w.rangeAt b off cs) (hu : P.underlying ty = some d) (hd : d.isRow = true) (hi : (P.info? ty).map (·.size) = some cs.length)
    (hQ : ∀ c a w, Q (.panic c) (a.put o.dst (.agg cs.toArray)) w → Q (.panic c) a w) (h0 : S w) (h : wpAnyH P .any ops Q S fuel (listed.setIfInBounds i true) (a.put o.dst (.agg cs.toArray)) w) : wpAnyH P .any ops Q S (fuel + 1) listed a w :=
  wpAnyH_take ho hs hf hr hQ (yieldsIf_load_mid hw ty x hop b off hx cs d hS hu hd hi) h0 h
/-- what yields in whatever world -/
theorem held_take (i : Nat) {o : Oper} (v : Value) (hs : Region.noSelect ops = true) (hf : Region.free .any ops listed i = true) (hr : (Region.ready .any ops listed).contains i = true) (ho : ops[i]? = some o) (hw : Region.wanted o (yielded ops a.tmps) = true)
    (hy : ∀ w, S w → (execOp a.eval o).run P w = .ok (.value v) w)
    (hQ : ∀ c a w, Q (.panic c) (a.put o.dst v) w → Q (.panic c) a w) (h0 : S w) (h : wpAnyH P .any ops Q S fuel (listed.setIfInBounds i true) (a.put o.dst v) w) : wpAnyH P .any ops Q S (fuel + 1) listed a w :=
  wpAnyH_take ho hs hf hr hQ (Or.inl ⟨hw, hy⟩) h0 h
end
end Go.Proofs.YtbfagiofhakjnaaDoor
