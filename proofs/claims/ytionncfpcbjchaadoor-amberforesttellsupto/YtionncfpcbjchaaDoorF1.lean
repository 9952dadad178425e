import Derived.Test.YtionncfpcbjchaaDoorF0
namespace Go.Proofs.YtionncfpcbjchaaDoor
open Go.RowKit
/-- a line that was begun -/
def Opn (T : Tx) : Prop := ∃ c : UInt8, T.getLast? = some c ∧ c ≠ 10
/-- a line ended, or none begun -/
def Fresh (T : Tx) : Prop := ∀ c : UInt8, T.getLast? = some c → c = 10
/-- numbers, a blank ahead of each -/
def lst (L : List Int) : Tx := L.flatMap fun z => 32 :: Lib.itoa z
theorem lst_app (L M : List Int) : lst (L ++ M) = lst L ++ lst M := by simp [lst]
theorem lst_cons (z : Int) (L : List Int) : lst (z :: L) = 32 :: (Lib.itoa z ++ lst L) := by simp [lst]
/-- an int of 64 bits -/
def I64 (z : Int) : Prop := -9223372036854775808 ≤ z ∧ z ≤ 9223372036854775807
theorem lst_len {L : List Int} (h : ∀ z ∈ L, I64 z) : (lst L).length ≤ 22 * L.length := by
  induction L with
  | nil => simp [lst]
  | cons z r ih =>
    have h1 := Lib.itoa_length_le z (h z (by simp)).1 (h z (by simp)).2
    have h2 := ih (fun x hx => h x (by simp [hx]))
    rw [lst_cons]
    simp
    omega
theorem dec_ne (u : Nat) : Lib.decDigits u ≠ [] := by
  unfold Lib.decDigits
  split <;> simp
theorem dec_last (u : Nat) : ∀ c, (Lib.decDigits u).getLast? = some c → c ≠ 10 := by
  intro c hc
  unfold Lib.decDigits at hc
  have hd : ∀ k, k < 10 → UInt8.ofNat (48 + k) ≠ 10 := by
    intro k hk
    have : ∀ k : Fin 10, UInt8.ofNat (48 + k.val) ≠ 10 := by decide
    exact this ⟨k, hk⟩
  split at hc
  · have e : c = UInt8.ofNat (48 + u) := by
      rw [List.getLast?_singleton] at hc; exact (Option.some.inj hc).symm
    rw [e]; exact hd u (by omega)
  · have e : c = UInt8.ofNat (48 + u % 10) := by
      rw [List.getLast?_append, List.getLast?_singleton] at hc; exact (Option.some.inj hc).symm
    rw [e]; exact hd _ (by omega)
theorem itoa_last (z : Int) : ∃ c : UInt8, (Lib.itoa z).getLast? = some c ∧ c ≠ 10 := by
  have key : ∀ u : Nat, ∃ c : UInt8, (Lib.decDigits u).getLast? = some c ∧ c ≠ 10 := fun u => by
    cases e : (Lib.decDigits u).getLast? with
    | none => exact absurd (List.getLast?_eq_none_iff.1 e) (dec_ne u)
    | some c => exact ⟨c, rfl, dec_last u c e⟩
  unfold Lib.itoa
  split
  · obtain ⟨c, h1, h2⟩ := key z.natAbs
    exact ⟨c, by rw [List.getLast?_cons, h1]; rfl, h2⟩
  · exact key _
theorem Opn.app (T : Tx) {s : Tx} (h : ∃ c : UInt8, s.getLast? = some c ∧ c ≠ 10) : Opn (T ++ s) := by
  obtain ⟨c, h1, h2⟩ := h
  exact ⟨c, by rw [List.getLast?_append, h1]; rfl, h2⟩
theorem Opn.num (T : Tx) (z : Int) : Opn (T ++ 32 :: Lib.itoa z) := by
  obtain ⟨c, h1, h2⟩ := itoa_last z
  exact Opn.app T ⟨c, by rw [List.getLast?_cons, h1]; rfl, h2⟩
theorem Opn.lst {T : Tx} (h : Opn T) (L : List Int) : Opn (T ++ lst L) := by
  induction L generalizing T with
  | nil => simpa [Go.Proofs.YtionncfpcbjchaaDoor.lst] using h
  | cons z r ih =>
    have := ih (Opn.num T z)
    rw [lst_cons]
    simpa using this
theorem Fresh.nl (T : Tx) : Fresh (T ++ [10]) := fun c hc => by simp at hc; exact hc.symm
theorem Fresh.nil : Fresh [] := fun c hc => by simp at hc
theorem sh_cell {w w1 : World} {b : Nat} {v : Value} {T : Tx} (hb : w.heap[b]? = some (.cells #[v] 52 (0, 0))) (hO : OwB w (b + 1) v T) (hg : w.grownBy w1 v.ownBlock) : w1.cell? ⟨b, 0, none⟩ = some v ∧ w1.frozen? ⟨b, 0, none⟩ = false := by
  have e1 : w1.heap[b]? = w.heap[b]? := hg.block b (Array.getElem?_eq_some_iff.1 hb).1 (fun e => by have := (World.ownsRow.lt hO b e.symm).1; omega)
  exact ⟨by rw [cell_of_row _ _ _ _ _ _ (e1.trans hb)]; rfl, frozen_of_row _ _ _ _ _ (e1.trans hb)⟩
set_option maxRecDepth 100000 in
set_option maxHeartbeats 2000000 in
theorem word_new (w : World) (b : Nat) (T s : Tx) (h : Sh w b T) (hF : Fresh T) (hl : T.length + s.length ≤ 900000000) :
    Calls Tryd.prog 16 #[.pointer (some ⟨b, 0, none⟩), .string ⟨s.toArray⟩] w fun e w' => e = .returned (.tuple #[]) ∧ Sh w' b (T ++ s) ∧ Fr b w w' := by
  have hbl := h.lt
  obtain ⟨v, hb, hO⟩ := h
  have HF := hide hF
  have HB := hide hb
  have HO := hide hO
  clear hF
  have hc : w.cell? ⟨b, 0, none⟩ = some v := by rw [cell_of_row _ _ _ _ _ _ hb]; rfl
  have hz : w.frozen? ⟨b, 0, none⟩ = false := frozen_of_row _ _ _ _ _ hb
  obtain ⟨a, c, hv, hac⟩ := hO.len
  clear hO hb
  subst hv
  have fin : ∀ v' w1, OwB w1 (b + 1) v' (T ++ s) → w.grownBy w1 (Value.ownBlock (.slice a T.length c)) → (Sh (w1.setCell ⟨b, 0, none⟩ v') b (T ++ s) ∧ Fr b w (w1.setCell ⟨b, 0, none⟩ v')) ∧ w1.cell? ⟨b, 0, none⟩ = some (.slice a T.length c) ∧ w1.frozen? ⟨b, 0, none⟩ = false := by
    intro v' w1 h1 h2
    have e1 : w1.heap[b]? = w.heap[b]? := h2.block b hbl (fun e => by have := (World.ownsRow.lt HO.out b e.symm).1; omega)
    exact ⟨sh_step HB.out HO.out h1 h2, by rw [cell_of_row _ _ _ _ _ _ (e1.trans HB.out)]; rfl, frozen_of_row _ _ _ _ _ (e1.trans HB.out)⟩
  have FIN := hide fin
  clear fin
  go_enter Tryd.func16, Tryd.ntmps16
  by_cases h0 : T.length = 0
  · have d0 : decide ((0 : Int) < (T.length : Int)) = false := by rw [decide_eq_false_iff_not]; omega
    have d0' : ¬ (0 : Int) < (T.length : Int) := by omega
    clear h0
    go_wp2_with (at_builtin; refine app_str rfl _ _ rfl (b + 1) _ T rfl HO.out s rfl (by omega) hbl ?_; intro v' w1 ho hg; obtain ⟨hfin, hc1, hz1⟩ := FIN.out v' w1 ho hg; obtain ⟨a2, n2, c2, rfl, hln2, hlc⟩ := ho.len2; have HFI := hide hfin)
    go_end0
    exact ⟨rfl, HFI.out⟩
  · have d0 : decide ((0 : Int) < (T.length : Int)) = true := by rw [decide_eq_true_iff]; omega
    have d0' : (0 : Int) < (T.length : Int) := by omega
    obtain ⟨d, hd⟩ : ∃ d, T.getLast? = some d := by
      cases e : T.getLast? with
      | none => rw [List.getLast?_eq_none_iff.1 e] at h0; simp at h0
      | some d => exact ⟨d, rfl⟩
    have hd10 := HF.out d hd
    subst hd10
    rw [List.getLast?_eq_getElem?] at hd
    obtain ⟨g, cap, hv, hcl⟩ := HO.out.get hd
    cases hv
    replace hcl : w.cell? ⟨g, T.length - 1, none⟩ = some (.int .u8 10) := hcl
    have hw : IntKind.i64.wrap ((T.length : Int) - 1) = ((T.length - 1 : Nat) : Int) := by rw [IntKind.wrap_i64]; omega
    have hlt : T.length - 1 < T.length := by omega
    go_wp2_with (at_builtin; refine app_str rfl _ _ rfl (b + 1) _ T rfl HO.out s rfl (by omega) hbl ?_; intro v' w1 ho hg; obtain ⟨hfin, hc1, hz1⟩ := FIN.out v' w1 ho hg; obtain ⟨a2, n2, c2, rfl, hln2, hlc⟩ := ho.len2; have HFI := hide hfin)
    go_end0
    exact ⟨rfl, HFI.out⟩
set_option maxRecDepth 100000 in
set_option maxHeartbeats 2000000 in
theorem word_mid (w : World) (b : Nat) (T s : Tx) (h : Sh w b T) (hF : Opn T) (hl : T.length + s.length ≤ 900000000) :
    Calls Tryd.prog 16 #[.pointer (some ⟨b, 0, none⟩), .string ⟨s.toArray⟩] w fun e w' => e = .returned (.tuple #[]) ∧ Sh w' b (T ++ 32 :: s) ∧ Fr b w w' := by
  have hbl := h.lt
  obtain ⟨v, hb, hO⟩ := h
  have HB := hide hb
  have HO := hide hO
  have hc : w.cell? ⟨b, 0, none⟩ = some v := by rw [cell_of_row _ _ _ _ _ _ hb]; rfl
  have hz : w.frozen? ⟨b, 0, none⟩ = false := frozen_of_row _ _ _ _ _ hb
  obtain ⟨d, hd, hd10⟩ := hF
  have h0 : T.length ≠ 0 := fun e => by rw [List.eq_nil_of_length_eq_zero e] at hd; simp at hd
  rw [List.getLast?_eq_getElem?] at hd
  obtain ⟨g, cap, hv, hcl⟩ := hO.get hd
  clear hO hb hd
  subst hv
  replace hcl : w.cell? ⟨g, T.length - 1, none⟩ = some (.int .u8 (d.toNat : Int)) := hcl
  have d0 : decide ((0 : Int) < (T.length : Int)) = true := by rw [decide_eq_true_iff]; omega
  have d0' : (0 : Int) < (T.length : Int) := by omega
  have hw : IntKind.i64.wrap ((T.length : Int) - 1) = ((T.length - 1 : Nat) : Int) := by rw [IntKind.wrap_i64]; omega
  have hlt : T.length - 1 < T.length := by omega
  have d1 : ((d.toNat : Int) == 10) = false := by
    simp
    intro e
    exact hd10 (UInt8.toNat_inj.1 (by have : d.toNat = 10 := by omega
                                      rw [this]; rfl))
  have d2 : ((d.toNat : Int) != 10) = true := by simp [bne, d1]
  go_enter Tryd.func16, Tryd.ntmps16
  go_upto_region 2 with fail
  have FR0 := hide (Fr.of (b := b) ((Below.refl w.heap.size w).alloc (Nat.le_refl _) (.cells #[.int .u8 32] 5)) (by omega))
  have HO0 := hide (HO.out.up ((Below.refl w.heap.size w).alloc (Nat.le_refl _) (.cells #[.int .u8 32] 5)))
  have HB0 : Hid ((w.alloc (.cells #[.int .u8 32] 5)).heap[b]? = some (.cells #[.slice (some ⟨g, 0, none⟩) T.length cap] 52 (0, 0))) := hide ((heap_alloc_old _ _ hbl).trans HB.out)
  have HN : Hid ((w.alloc (.cells #[.int .u8 32] 5)).cell? ⟨w.heap.size, 0, none⟩ = some (.int .u8 32)) := hide (by rw [World.cell?_alloc_new]; rfl)
  go_upto_region 3 with (at_builtin; refine app_bys rfl _ _ rfl (b + 1) _ T rfl HO0.out [32] w.heap.size 1 1 rfl rfl (fun j u hu => by cases j with | zero => simp at hu; subst hu; exact HN.out | succ j => simp at hu) (by simp; omega) (by simp; omega) ?_; intro v1 w1 ho1 hg1; obtain ⟨a1, n1, c1, rfl, hln1, hlc1⟩ := ho1.len2; obtain ⟨hc1, hz1⟩ := sh_cell HB0.out HO0.out hg1; have HS1 := hide (sh_step HB0.out HO0.out ho1 hg1))
  have FR1 := hide (FR0.out.trans HS1.out.2)
  have HS2 := hide HS1.out.1
  clear HS1 hc1 hz1 hg1 ho1 HB0 HO0 HN FR0 hcl hc hz HB HO
  generalize w1.setCell ⟨b, 0, none⟩ (.slice a1 n1 c1) = w2 at *
  clear hln1 hlc1
  have hbl2 := HS2.out.lt
  obtain ⟨v2, hb2, hO2⟩ := HS2.out
  have HB2 := hide hb2
  have HO2 := hide hO2
  have hc2 : w2.cell? ⟨b, 0, none⟩ = some v2 := by rw [cell_of_row _ _ _ _ _ _ hb2]; rfl
  have hz2 : w2.frozen? ⟨b, 0, none⟩ = false := frozen_of_row _ _ _ _ _ hb2
  obtain ⟨a2, n2, c2, hv2, hln2, hlc2⟩ := hO2.len2
  clear hO2 hb2
  subst hv2
  have e3 : T ++ [32] ++ s = T ++ 32 :: s := by simp
  go_wp2_with (at_builtin; refine app_str rfl _ _ rfl (b + 1) _ (T ++ [32]) rfl HO2.out s rfl (by simp; omega) hbl2 ?_; intro v3 w3 ho3 hg3; obtain ⟨a3, n3, c3, rfl, hln3, hlc3⟩ := ho3.len2; obtain ⟨hc3, hz3⟩ := sh_cell HB2.out HO2.out hg3; have HS3 := hide (sh_step HB2.out HO2.out ho3 hg3))
  go_end0
  refine ⟨rfl, ?_, FR1.out.trans HS3.out.2⟩
  rw [← e3]
  exact HS3.out.1
set_option maxRecDepth 100000 in
set_option maxHeartbeats 2000000 in
theorem end_any (w : World) (b : Nat) (T : Tx) (h : Sh w b T) (hl : T.length ≤ 900000000) :
    Calls Tryd.prog 21 #[.pointer (some ⟨b, 0, none⟩)] w fun e w' => e = .returned (.tuple #[]) ∧ Sh w' b (T ++ [10]) ∧ Fr b w w' := by
  have hbl := h.lt
  obtain ⟨v, hb, hO⟩ := h
  have HB := hide hb
  have HO := hide hO
  have hc : w.cell? ⟨b, 0, none⟩ = some v := by rw [cell_of_row _ _ _ _ _ _ hb]; rfl
  obtain ⟨a, n, c, hv, hln, hlc⟩ := hO.len2
  clear hO hb
  subst hv
  have FR0 := hide (Fr.of (b := b) ((Below.refl w.heap.size w).alloc (Nat.le_refl _) (.cells #[.int .u8 10] 5)) (by omega))
  have HO0 := hide (HO.out.up ((Below.refl w.heap.size w).alloc (Nat.le_refl _) (.cells #[.int .u8 10] 5)))
  have HB0 : Hid ((w.alloc (.cells #[.int .u8 10] 5)).heap[b]? = some (.cells #[.slice a n c] 52 (0, 0))) := hide ((heap_alloc_old _ _ hbl).trans HB.out)
  have HN : Hid ((w.alloc (.cells #[.int .u8 10] 5)).cell? ⟨w.heap.size, 0, none⟩ = some (.int .u8 10)) := hide (by rw [World.cell?_alloc_new]; rfl)
  go_enter Tryd.func21, Tryd.ntmps21
  go_wp2_with (at_builtin; refine app_bys rfl _ _ rfl (b + 1) _ T rfl HO0.out [10] w.heap.size 1 1 rfl rfl (fun j u hu => by cases j with | zero => simp at hu; subst hu; exact HN.out | succ j => simp at hu) (by simp; omega) (by simp; omega) ?_; intro v1 w1 ho1 hg1; obtain ⟨a1, n1, c1, rfl, hln1, hlc1⟩ := ho1.len2; obtain ⟨hc1, hz1⟩ := sh_cell HB0.out HO0.out hg1; have HS1 := hide (sh_step HB0.out HO0.out ho1 hg1))
  go_end0
  exact ⟨rfl, HS1.out.1, FR0.out.trans HS1.out.2⟩
end Go.Proofs.YtionncfpcbjchaaDoor
