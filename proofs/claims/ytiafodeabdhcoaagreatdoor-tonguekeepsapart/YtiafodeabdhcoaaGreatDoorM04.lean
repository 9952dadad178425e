import Derived.BigRegion
import Derived.Test.YtiafodeabdhcoaaGreatDoorM00
import Derived.Test.YtiafodeabdhcoaaGreatDoorM02
import Derived.Test.YtiafodeabdhcoaaGreatDoorM03
namespace Go.Proofs.YtiafodeabdhcoaaGreatDoor
open Go.RowKit
/-- what lies ready, below the coder's block -/
def Lyb (g : Nat) (w : World) : Prop := ∃ w0, Lg w0 ∧ w0.heap.size ≤ g ∧ Below g w0 w
theorem Lyb.lg {g : Nat} {w : World} (h : Lyb g w) : Lg w := by obtain ⟨w0, h1, h2, h3⟩ := h; exact h1.below (h3.mono h2)
theorem Lyb.bel {g : Nat} {w w' : World} (h : Lyb g w) (hk : Below g w w') : Lyb g w' := by obtain ⟨w0, h1, h2, h3⟩ := h; exact ⟨w0, h1, h2, h3.trans hk⟩
theorem Lyb.kc {g : Nat} {w w' : World} (h : Lyb g w) (hk : Kc g w w') : Lyb g w' := h.bel hk.b
theorem bytes_eq {b : ByteArray} {l : Tx} (h : b.data.toList = l) : b = ⟨l.toArray⟩ := by
  subst h; rfl
theorem cat_bytes (a b : ByteArray) : (a ++ b).data.toList = a.data.toList ++ b.data.toList := by simp [ByteArray.data_append]
theorem kc_row {g M : Nat} {w w' : World} {cs : Array Value} {T : TypeId} {f : Nat × Nat} (hk : Kc g w w') (h : w.heap[M]? = some (.cells cs T f)) (hg : M ≠ g) (hT : T ≠ 5) : w'.heap[M]? = some (.cells cs T f) :=
  hk.o M _ h (fun e => hg (Option.some.inj e)) (fun c fz e => hT (by cases e; rfl))
theorem put_nil (s : Cd) : s.put [] = s := by simp [Cd.put, lnsT]
theorem put_put (s : Cd) (a b : List Tx) : (s.put a).put b = s.put (a ++ b) := by
  simp [Cd.put, lnsT, Nat.add_assoc]
theorem take_one (L : List Tx) (k : Nat) (h : k < L.length) : L.take (k + 1) = L.take k ++ [L[k]] := List.take_succ_eq_append_getElem h
theorem lines_one (p : Tx) : lnsT [p] = p ++ [10] := by simp [lnsT]
theorem lines_len : ∀ (L : List Tx) (k : Nat), (lnsT (L.take k)).length ≤ (lnsT L).length
  | [], k => by simp [lnsT]
  | a :: L, 0 => by simp [lnsT]
  | a :: L, k + 1 => by
    have := lines_len L k
    simp only [lnsT, List.take_succ_cons, List.flatMap_cons, List.length_append] at this ⊢
    omega
theorem sem_len : ∀ (L : List Tx), (semJ L).length ≤ 2 * (lnsT L).length
  | [] => by simp [semJ]
  | [a] => by simp [semJ, lnsT]; omega
  | a :: b :: r => by
    have ih := sem_len (b :: r)
    simp only [semJ, lnsT, List.flatMap_cons, List.length_append, List.length_cons, List.length_nil] at ih ⊢
    omega
section
variable (w : World) (g : Nat) (s : Cd)
theorem cdw_b (b : ByteArray) (t : Tx) (hb : b.data.toList = t) (h : CdAt w g s) (hlen : s.text.length + t.length ≤ 140737488355328) : Calls Tryz.prog 57 #[.pointer (some ⟨g, 0, none⟩), .string b] w fun e w' => (∃ v, e = .returned v) ∧ CdAt w' g { s with text := s.text ++ t } ∧ Kc g w w' := by
  rw [bytes_eq hb]; exact cdw_any w g s t h hlen
set_option maxHeartbeats 2000000 in
set_option maxRecDepth 100000 in
theorem put_any (b : ByteArray) (L : List Tx) (hb : b.data.toList = semJ L) (h0 : L ≠ []) (hs : ∀ p ∈ L, (59 : UInt8) ∉ p) (h : CdAt w g s) (hG : Lyb g w) (hlen : (s.put L).text.length ≤ 1000000000) (hwd : s.words + L.length ≤ 1000000000) : Calls Tryz.prog 32 #[.pointer (some ⟨g, 0, none⟩), .string b] w fun e w' => e = .returned (.tuple #[]) ∧ CdAt w' g (s.put L) ∧ Kc g w w' := by
  rw [bytes_eq hb]
  obtain ⟨m, hm⟩ := hG.lg.m
  obtain ⟨hc, hsp⟩ := split_sem L h0 hs
  have hgw := h.lt
  have hl2 : (lnsT L).length ≤ 1000000000 := by
    have : (s.put L).text.length = s.text.length + (lnsT L).length := by simp [Cd.put]
    omega
  have hsl := sem_len L
  have hsplit := Tryz.splits (semJ L) [59, 32] m w (by omega) (by decide) hm
  rw [hsp, hc, List.map_map] at hsplit
  have HS := hide hsplit
  clear hsplit hsp hc hm
  have HC := hide (h.below (w' := w.alloc (.cells (L.map (Value.string ∘ fun p => (⟨p.toArray⟩ : ByteArray))).toArray 9)) ((Below.refl _ _).alloc (Nat.le_refl _) _))
  have HK := hide (Kc.below (g := g) (w' := w.alloc (.cells (L.map (Value.string ∘ fun p => (⟨p.toArray⟩ : ByteArray))).toArray 9)) ((Below.refl w.heap.size w).alloc (Nat.le_refl _) _) (by omega))
  have HR : Hid ((w.alloc (.cells (L.map (Value.string ∘ fun p => (⟨p.toArray⟩ : ByteArray))).toArray 9)).heap[w.heap.size]? = some (.cells (L.map (Value.string ∘ fun p => (⟨p.toArray⟩ : ByteArray))).toArray 9 (0, 0))) := hide (heap_alloc_last _ _)
  obtain ⟨M, hM⟩ : ∃ M, w.heap.size = M := ⟨_, rfl⟩
  obtain ⟨n, hn⟩ : ∃ n, L.length = n := ⟨_, rfl⟩
  have HN := hide hn
  rw [hn] at HS
  rw [hM] at HR HS
  have hMg : M ≠ g := by omega
  clear h hsl
  go_enter Tryz.func32, Tryz.ntmps32
  go_wp2_with fail
  refine HS.out.mono ?_
  rintro e _ ⟨rfl, rfl⟩
  clear HS
  generalize w.alloc (.cells (L.map (Value.string ∘ fun p => (⟨p.toArray⟩ : ByteArray))).toArray 9) = w1 at *
  go_wp2_with fail
  go_loopw [9] (fun i wr => ∃ k : Nat, k ≤ n ∧ i = .int .i64 (k : Nat) ∧ Hid (CdAt wr g (s.put (L.take k))) ∧ Hid (Kc g w1 wr)) (fun i _ => n - (RowKit.intOf i).toNat)
  case atStart => exact ⟨0, by omega, rfl, hide (by rw [List.take_zero, put_nil]; exact HC.out), hide (Kc.refl _ _)⟩
  case round =>
    obtain ⟨k, hk, rfl, HCk, HKk⟩ := hrel
    by_cases hlt : k < n
    · have hki : (k : Int) < n := by omega
      have hkL : k < L.length := by have := HN.out; omega
      have hc1 : wr.cell? ⟨M, k, none⟩ = some (.string ⟨(L[k]).toArray⟩) := by
        rw [cell_of_row _ _ _ _ _ _ (kc_row HKk.out HR.out hMg (by decide))]
        simp [hkL]
      have hl1 := lines_len L (k + 1)
      have hte := take_one L k hkL
      have hp1 : (s.put (L.take (k + 1))) = (s.put (L.take k)).put [L[k]] := by rw [hte, put_put]
      have hlt1 : (s.put (L.take (k + 1))).text.length ≤ 1000000000 := by
        have e1 : (s.put (L.take (k + 1))).text.length = s.text.length + (lnsT (L.take (k + 1))).length := by simp [Cd.put]
        have e2 : (s.put L).text.length = s.text.length + (lnsT L).length := by simp [Cd.put]
        omega
      have hw1 : (s.put (L.take k)).words = s.words + k := by simp [Cd.put]; omega
      rw [hp1] at hlt1
      have HP1 := hide hp1
      have HT := hide hlt1
      have HW := hide hw1
      have hNn := HN.out
      have hpk : (L[k]).length ≤ 1000000000 := by
        have := hlt1
        simp only [Cd.put, lines_one, List.length_append] at this
        omega
      clear hl1 hte hp1 hlt1 hw1
      go_wp2_with fail
      refine (cdw_b wr g (s.put (L.take k)) _ (L[k] ++ [10]) ?hb HCk.out ?hl).mono ?_
      case hb => simp [ByteArray.data_append]
      case hl => have := HT.out; simp only [Cd.put, lnsT, List.flatMap_cons, List.flatMap_nil, List.append_nil, List.length_append] at this ⊢; omega
      rintro e w2 ⟨⟨v, rfl⟩, h1, h2⟩
      obtain ⟨c2, f2⟩ := h1.cell (j := 2) (x := .int .i64 ((s.words + k : Nat) : Int)) (fun _ _ => by rw [← HW.out]; rfl)
      have hca : ((s.words + k : Nat) : Int) + 1 = ((s.words + k + 1 : Nat) : Int) := by omega
      have H1 : Hid (CdAt (w2.setCell ⟨g, 2, none⟩ (.int .i64 (((s.words + k : Nat) : Int) + 1))) g (s.put (L.take (k + 1)))) := hide (by
        rw [HP1.out]
        refine h1.store 2 _ (fun p v => ?_) (by rw [← lines_one]; rfl)
        rw [hca, ← HW.out]; rfl)
      have H2 : Hid (Kc g w1 (w2.setCell ⟨g, 2, none⟩ (.int .i64 (((s.words + k : Nat) : Int) + 1)))) := hide ((HKk.out.trans h2).store 2 _)
      clear h1 h2 HCk HKk HT HW HP1 hca
      obtain ⟨q, hq⟩ : ∃ q, s.words + k = q := ⟨_, rfl⟩
      rw [hq] at c2 H1 H2
      have hwr : IntKind.i64.wrap ((q : Int) + 1) = (q : Int) + 1 := by rw [IntKind.wrap_i64]; omega
      clear hq
      go_wp2
      go_roundw
      case rel => exact ⟨k + 1, by omega, by go_num, H1, H2⟩
      case measure => simp [RowKit.intOf]; omega
    · obtain rfl : k = n := by omega
      have hfin : L.take k = L := by rw [← HN.out, List.take_length]
      rw [hfin] at HCk
      clear hfin
      go_wp2
      go_end0
      exact ⟨rfl, HCk.out, HK.out.trans HKk.out⟩
end
end Go.Proofs.YtiafodeabdhcoaaGreatDoor

namespace Go.Proofs.YtiafodeabdhcoaaGreatDoor
open Go.RowKit
section
variable (w : World)
theorem tLetter_any (c : Nat) : Calls Tryz.prog 108 #[.int .i32 (c : Int)] w fun e w' => e = .returned (.bool (letN c)) ∧ w' = w := by
  by_cases h1 : 97 ≤ c
  · by_cases h2 : c ≤ 122
    · have a1 : (97 : Int) ≤ c := by omega
      have a2 : (c : Int) ≤ 122 := by omega
      have HV : Hid (letN c = true) := hide (by simp [letN]; omega)
      go_enter Tryz.func108, Tryz.ntmps108
      go_wp2
      go_ret
      exact ⟨by rw [HV.out]; rfl, rfl⟩
    · have a1 : (97 : Int) ≤ c := by omega
      have a2 : ¬ (c : Int) ≤ 122 := by omega
      have a3 : (65 : Int) ≤ c := by omega
      have a4 : ¬ (c : Int) ≤ 90 := by omega
      have a5 : ((c : Int) == 95) = false := by simp; omega
      have HV : Hid (letN c = false) := hide (by simp [letN]; omega)
      go_enter Tryz.func108, Tryz.ntmps108
      go_wp2
      go_ret
      exact ⟨by rw [HV.out]; rfl, rfl⟩
  · have a1 : ¬ (97 : Int) ≤ c := by omega
    by_cases h2 : 65 ≤ c
    · have a3 : (65 : Int) ≤ c := by omega
      by_cases h3 : c ≤ 90
      · have a4 : (c : Int) ≤ 90 := by omega
        have HV : Hid (letN c = true) := hide (by simp [letN]; omega)
        go_enter Tryz.func108, Tryz.ntmps108
        go_wp2
        go_ret
        exact ⟨by rw [HV.out]; rfl, rfl⟩
      · have a4 : ¬ (c : Int) ≤ 90 := by omega
        by_cases h4 : c = 95
        · subst h4
          go_enter Tryz.func108, Tryz.ntmps108
          go_wp2
          go_ret
          exact ⟨rfl, rfl⟩
        · have a5 : ((c : Int) == 95) = false := by simp; omega
          have HV : Hid (letN c = false) := hide (by simp [letN]; omega)
          go_enter Tryz.func108, Tryz.ntmps108
          go_wp2
          go_ret
          exact ⟨by rw [HV.out]; rfl, rfl⟩
    · have a3 : ¬ (65 : Int) ≤ c := by omega
      have a5 : ((c : Int) == 95) = false := by simp; omega
      have HV : Hid (letN c = false) := hide (by simp [letN]; omega)
      go_enter Tryz.func108, Tryz.ntmps108
      go_wp2
      go_ret
      exact ⟨by rw [HV.out]; rfl, rfl⟩
theorem tDigit1_any (c : Nat) : Calls Tryz.prog 109 #[.int .i32 (c : Int)] w fun e w' => e = .returned (.bool (digN c)) ∧ w' = w := by
  by_cases h1 : 48 ≤ c
  · have a1 : (48 : Int) ≤ c := by omega
    by_cases h2 : c ≤ 57
    · have a2 : (c : Int) ≤ 57 := by omega
      have HV : Hid (digN c = true) := hide (by simp [digN]; omega)
      go_enter Tryz.func109, Tryz.ntmps109
      go_wp2
      go_ret
      exact ⟨by rw [HV.out]; rfl, rfl⟩
    · have a2 : ¬ (c : Int) ≤ 57 := by omega
      have HV : Hid (digN c = false) := hide (by simp [digN]; omega)
      go_enter Tryz.func109, Tryz.ntmps109
      go_wp2
      go_ret
      exact ⟨by rw [HV.out]; rfl, rfl⟩
  · have a1 : ¬ (48 : Int) ≤ c := by omega
    have HV : Hid (digN c = false) := hide (by simp [digN]; omega)
    go_enter Tryz.func109, Tryz.ntmps109
    go_wp2
    go_ret
    exact ⟨by rw [HV.out]; rfl, rfl⟩
theorem tDigit_any (c : Nat) (hc : c ≤ 1114111) : Calls Tryz.prog 143 #[.int .i32 (c : Int)] w fun e w' => e = .returned (.int .i64 (dvN c : Nat)) ∧ w' = w := by
  have HC := hide hc
  have hD := tDigit1_any w c
  cases hd : digN c with
  | true =>
    have HV : Hid (dvN c = c - 48) := hide (by simp [dvN, hd])
    have h1 : 48 ≤ c ∧ c ≤ 57 := by simpa [digN] using hd
    have e1 : (c : Int) - 48 = ((c - 48 : Nat) : Int) := by omega
    rw [hd] at hD
    have HD := hide hD
    clear hD hd hc
    go_enter Tryz.func143, Tryz.ntmps143
    go_wp2_with fail
    refine HD.out.mono ?_
    rintro e w1 ⟨rfl, rfl⟩
    go_wp2
    go_ret
    exact ⟨by rw [HV.out]; rfl, rfl⟩
  | false =>
    rw [hd] at hD
    have HD := hide hD
    clear hD
    by_cases h1 : 97 ≤ c ∧ c ≤ 102
    · have HV : Hid (dvN c = c - 87) := hide (by simp [dvN, hd, h1])
      have a1 : (97 : Int) ≤ c := by omega
      have a2 : (c : Int) ≤ 102 := by omega
      have HE : Hid ((c : Int) - 97 + 10 = ((c - 87 : Nat) : Int)) := hide (by omega)
      clear hd hc h1
      go_enter Tryz.func143, Tryz.ntmps143
      go_wp2_with fail
      refine HD.out.mono ?_
      rintro e w1 ⟨rfl, rfl⟩
      go_wp2
      go_ret
      exact ⟨by rw [HV.out, ← HE.out]; rfl, rfl⟩
    · have HV : Hid (dvN c = 16) := hide (by simp [dvN, hd, h1])
      by_cases h2 : 97 ≤ c
      · have a1 : (97 : Int) ≤ c := by omega
        have a2 : ¬ (c : Int) ≤ 102 := by omega
        clear hd hc h1 h2
        go_enter Tryz.func143, Tryz.ntmps143
        go_wp2_with fail
        refine HD.out.mono ?_
        rintro e w1 ⟨rfl, rfl⟩
        go_wp2
        go_ret
        exact ⟨by rw [HV.out]; rfl, rfl⟩
      · have a1 : ¬ (97 : Int) ≤ c := by omega
        clear hd hc h1 h2
        go_enter Tryz.func143, Tryz.ntmps143
        go_wp2_with fail
        refine HD.out.mono ?_
        rintro e w1 ⟨rfl, rfl⟩
        go_wp2
        go_ret
        exact ⟨by rw [HV.out]; rfl, rfl⟩
set_option maxRecDepth 100000 in
set_option maxHeartbeats 1000000 in
theorem tNumber_any (l : Tx) (hl : l.length ≤ 16384) : Calls Tryz.prog 111 #[.string ⟨l.toArray⟩] w fun e w' => ∃ v : Int, e = .returned (.tuple #[.int .u32 v, .bool (nmT l).isSome]) ∧ (∀ n, nmT l = some n → v = (n : Int)) ∧ Below w.heap.size w w' := by
  have h2 := Tryz.cutPre l [48, 120] w
  have HV : Hid (nmT l = if (digT l).length = 0 ∨ mosT l < (digT l).length then none else (numF (basT l) 0 (digT l)).bind fun n => if n ≤ 4294967295 then some n else none) := hide rfl
  have HD : Hid (hexT l = false → digT l = l) := hide (by
    intro h
    unfold digT Lib.trimPrefix
    unfold hexT at h
    rw [h]; rfl)
  change Calls _ _ _ _ fun e w' => e = .returned (.tuple #[.string ⟨(digT l).toArray⟩, .bool (hexT l)]) ∧ w' = w at h2
  unfold mosT basT at HV
  have hdl : (digT l).length ≤ 16384 := by
    unfold digT Lib.trimPrefix
    split
    · simp; omega
    · exact hl
  generalize hD : digT l = D at *
  clear hD
  cases hx : hexT l with
  | true =>
    rw [hx] at HV h2
    simp only [if_true] at HV
    have H2 := hide h2
    clear h2 HD hx
    by_cases h0 : D = []
    · have HN : Hid (nmT l = none) := hide (by rw [HV.out, h0]; rfl)
      subst h0
      clear HV
      go_enter Tryz.func111, Tryz.ntmps111
      go_wp2_with fail
      refine H2.out.mono ?_
      rintro e w2 ⟨rfl, rfl⟩
      go_wp2
      go_ret2
      exact ⟨_, by rw [HN.out]; rfl, by rw [HN.out]; simp, Below.refl _ _⟩
    have he : List.isEmpty D = false := by simpa using h0
    have hdp : 0 < D.length := List.length_pos_iff.2 h0
    by_cases hm : 8 < D.length
    · have HN : Hid (nmT l = none) := hide (by rw [HV.out, if_pos (.inr hm)])
      have hm2 : (8 : Int) < (D.length : Int) := by omega
      clear HV h0 hm
      go_enter Tryz.func111, Tryz.ntmps111
      go_wp2_with fail
      refine H2.out.mono ?_
      rintro e w2 ⟨rfl, rfl⟩
      go_wp2
      go_ret2
      exact ⟨_, by rw [HN.out]; rfl, by rw [HN.out]; simp, Below.refl _ _⟩
    have hm2 : ¬ (8 : Int) < (D.length : Int) := by omega
    have HW : Hid (nmT l = (numF 16 0 D).bind fun n => if n ≤ 4294967295 then some n else none) := hide (by rw [HV.out, if_neg (by omega)])
    have hbd : ∀ (k m : Nat), numF 16 0 (D.take k) = some m → m < 10000000000 := fun k m h => by
      have h3 := numF_lt 16 (by decide) (D.take k) 0 m 0 (by decide) h
      have h4 : (0 + (D.take k).length) ≤ 8 := by simp; omega
      have h5 : 16 ^ (0 + (D.take k).length) ≤ 16 ^ 8 := Nat.pow_le_pow_right (by decide) h4
      have h6 : 16 ^ 8 ≤ 10000000000 := by decide
      omega
    have HBD := hide hbd
    clear HV h0 hm hbd
    go_enter Tryz.func111, Tryz.ntmps111
    go_wp2_with fail
    refine H2.out.mono ?_
    rintro e w2 ⟨rfl, rfl⟩
    clear H2
    go_upto_region 9 with fail
    go_loopw [2, 3, 9] (fun r x u wr => ∃ pos m : Nat, r = .int .u32 0 ∧ x = .bool false ∧ u = .int .i64 (m : Int) ∧ pos ≤ D.length ∧ numF 16 0 (D.take pos) = some m ∧ It wr w2.heap.size ⟨D.toArray⟩ pos ∧ Below w2.heap.size w2 wr) (fun _ _ _ wr => D.length - itPos wr w2.heap.size)
    case atStart => exact ⟨0, 0, rfl, rfl, rfl, by omega, rfl, heap_alloc_last _ _, bel1 _ _⟩
    case round =>
    obtain ⟨pos, m, rfl, rfl, rfl, hp, hnf, hI, hB⟩ := hrel
    have hmb := HBD.out _ _ hnf
    by_cases hlt : pos < D.length
    · obtain ⟨c, q, nx, hq, hql, hc⟩ := it_step (P := Tryz.prog) hI hlt
      have HI := hide (it_to hI q)
      have HB := hide (it_below (s := ⟨D.toArray⟩) hB (Nat.le_refl _) q)
      have HP := hide (it_pos hI)
      have HNF := hide hnf
      have hc1 : c ≤ 1114111 := by rcases hc with ⟨h, _⟩ | ⟨_, h, _⟩ <;> omega
      have HT : Hid (dvN c < 16 → q = pos + 1 ∧ dvN c = digV D[pos]) := hide (by
        intro h
        rcases hc with ⟨_, h1, h2⟩ | ⟨h1, _⟩
        · exact ⟨h2, by rw [dv_byte, h1]⟩
        · rw [dv_hi h1] at h; omega)
      have HF : Hid (¬ dvN c < 16 → ¬ digV D[pos] < 16) := hide (by
        intro h
        rcases hc with ⟨_, h1, h2⟩ | ⟨h1, _, h3⟩
        · rw [dv_byte, ← h1]; exact h
        · have h4 := h3 pos hlt (Nat.le_refl _) hq
          rw [dv_byte, dv_hi h4]; omega)
      have HG := hide (tDigit_any (World.itTo wr w2.heap.size ⟨D.toArray⟩ q) c hc1)
      have hdv := dv_le c
      clear hc hI hB hnf hc1
      generalize dvN c = dv at *
      by_cases hd : dv < 16
      · have hd2 : ¬ (16 : Int) ≤ (dv : Int) := by omega
        obtain ⟨e1, e2⟩ := HT.out hd
        have HS : Hid (numF 16 0 (D.take q) = some (m * 16 + dv)) := hide (by rw [e1, e2]; exact numF_step hlt HNF.out (by rw [← e2]; exact hd))
        clear HT HF e1 e2
        go_wp2_with fail
        refine HG.out.mono ?_
        rintro e w3 ⟨rfl, rfl⟩
        go_wp2
        refine ⟨⟨q, m * 16 + dv, rfl, rfl, by simp, hql, HS.out, HI.out, HB.out⟩, ?_⟩
        rw [it_pos HI.out, HP.out]
        omega
      · have hd2 : (16 : Int) ≤ (dv : Int) := by omega
        have HN : Hid (nmT l = none) := hide (by rw [HW.out, numF_none hlt HNF.out (HF.out hd)]; rfl)
        clear HT HF
        go_wp2_with fail
        refine HG.out.mono ?_
        rintro e w3 ⟨rfl, rfl⟩
        go_wp2
        go_ret2
        exact ⟨_, by rw [HN.out]; rfl, by rw [HN.out]; simp, HB.out⟩
    · have nx := it_stop (P := Tryz.prog) hI hlt
      have HB := hide hB
      obtain rfl : pos = D.length := by omega
      rw [List.take_length] at hnf
      clear hI hB
      by_cases hmw : m ≤ 4294967295
      · have HN : Hid (nmT l = some m) := hide (by rw [HW.out, hnf]; simp [hmw])
        have hmi : (m : Int) ≤ 4294967295 := by omega
        have hwr : IntKind.u32.wrap (m : Int) = (m : Int) := by rw [IntKind.wrap_u32]; omega
        clear hnf HW
        go_wp2
        go_ret2
        exact ⟨_, by rw [HN.out]; rfl, by rw [HN.out]; simp, HB.out⟩
      · have HN : Hid (nmT l = none) := hide (by rw [HW.out, hnf]; simp [hmw])
        have hmi : ¬ (m : Int) ≤ 4294967295 := by omega
        obtain ⟨x, hwr⟩ : ∃ x, IntKind.u32.wrap (m : Int) = x := ⟨_, rfl⟩
        clear hnf HW
        go_wp2
        go_ret2
        exact ⟨_, by rw [HN.out]; rfl, by rw [HN.out]; simp, HB.out⟩
  | false =>
    rw [hx] at HV h2
    simp only [if_false, Bool.false_eq_true] at HV
    obtain rfl := HD.out hx
    have H2 := hide h2
    clear h2 HD hx
    by_cases h0 : D = []
    · have HN : Hid (nmT D = none) := hide (by rw [HV.out, h0]; rfl)
      subst h0
      clear HV
      go_enter Tryz.func111, Tryz.ntmps111
      go_wp2_with fail
      refine H2.out.mono ?_
      rintro e w2 ⟨rfl, rfl⟩
      go_wp2
      go_ret2
      exact ⟨_, by rw [HN.out]; rfl, by rw [HN.out]; simp, Below.refl _ _⟩
    have he : List.isEmpty D = false := by simpa using h0
    have hdp : 0 < D.length := List.length_pos_iff.2 h0
    by_cases hm : 10 < D.length
    · have HN : Hid (nmT D = none) := hide (by rw [HV.out, if_pos (.inr hm)])
      have hm2 : (10 : Int) < (D.length : Int) := by omega
      clear HV h0 hm
      go_enter Tryz.func111, Tryz.ntmps111
      go_wp2_with fail
      refine H2.out.mono ?_
      rintro e w2 ⟨rfl, rfl⟩
      go_wp2
      go_ret2
      exact ⟨_, by rw [HN.out]; rfl, by rw [HN.out]; simp, Below.refl _ _⟩
    have hm2 : ¬ (10 : Int) < (D.length : Int) := by omega
    have HW : Hid (nmT D = (numF 10 0 D).bind fun n => if n ≤ 4294967295 then some n else none) := hide (by rw [HV.out, if_neg (by omega)])
    have hbd : ∀ (k m : Nat), numF 10 0 (D.take k) = some m → m < 10000000000 := fun k m h => by
      have h3 := numF_lt 10 (by decide) (D.take k) 0 m 0 (by decide) h
      have h4 : (0 + (D.take k).length) ≤ 10 := by simp; omega
      have h5 : 10 ^ (0 + (D.take k).length) ≤ 10 ^ 10 := Nat.pow_le_pow_right (by decide) h4
      have h6 : 10 ^ 10 ≤ 10000000000 := by decide
      omega
    have HBD := hide hbd
    clear HV h0 hm hbd
    go_enter Tryz.func111, Tryz.ntmps111
    go_wp2_with fail
    refine H2.out.mono ?_
    rintro e w2 ⟨rfl, rfl⟩
    clear H2
    go_upto_region 9 with fail
    go_loopw [2, 3, 9] (fun r x u wr => ∃ pos m : Nat, r = .int .u32 0 ∧ x = .bool false ∧ u = .int .i64 (m : Int) ∧ pos ≤ D.length ∧ numF 10 0 (D.take pos) = some m ∧ It wr w2.heap.size ⟨D.toArray⟩ pos ∧ Below w2.heap.size w2 wr) (fun _ _ _ wr => D.length - itPos wr w2.heap.size)
    case atStart => exact ⟨0, 0, rfl, rfl, rfl, by omega, rfl, heap_alloc_last _ _, bel1 _ _⟩
    case round =>
    obtain ⟨pos, m, rfl, rfl, rfl, hp, hnf, hI, hB⟩ := hrel
    have hmb := HBD.out _ _ hnf
    by_cases hlt : pos < D.length
    · obtain ⟨c, q, nx, hq, hql, hc⟩ := it_step (P := Tryz.prog) hI hlt
      have HI := hide (it_to hI q)
      have HB := hide (it_below (s := ⟨D.toArray⟩) hB (Nat.le_refl _) q)
      have HP := hide (it_pos hI)
      have HNF := hide hnf
      have hc1 : c ≤ 1114111 := by rcases hc with ⟨h, _⟩ | ⟨_, h, _⟩ <;> omega
      have HT : Hid (dvN c < 10 → q = pos + 1 ∧ dvN c = digV D[pos]) := hide (by
        intro h
        rcases hc with ⟨_, h1, h2⟩ | ⟨h1, _⟩
        · exact ⟨h2, by rw [dv_byte, h1]⟩
        · rw [dv_hi h1] at h; omega)
      have HF : Hid (¬ dvN c < 10 → ¬ digV D[pos] < 10) := hide (by
        intro h
        rcases hc with ⟨_, h1, h2⟩ | ⟨h1, _, h3⟩
        · rw [dv_byte, ← h1]; exact h
        · have h4 := h3 pos hlt (Nat.le_refl _) hq
          rw [dv_byte, dv_hi h4]; omega)
      have HG := hide (tDigit_any (World.itTo wr w2.heap.size ⟨D.toArray⟩ q) c hc1)
      have hdv := dv_le c
      clear hc hI hB hnf hc1
      generalize dvN c = dv at *
      by_cases hd : dv < 10
      · have hd2 : ¬ (10 : Int) ≤ (dv : Int) := by omega
        obtain ⟨e1, e2⟩ := HT.out hd
        have HS : Hid (numF 10 0 (D.take q) = some (m * 10 + dv)) := hide (by rw [e1, e2]; exact numF_step hlt HNF.out (by rw [← e2]; exact hd))
        clear HT HF e1 e2
        go_wp2_with fail
        refine HG.out.mono ?_
        rintro e w3 ⟨rfl, rfl⟩
        go_wp2
        refine ⟨⟨q, m * 10 + dv, rfl, rfl, by simp, hql, HS.out, HI.out, HB.out⟩, ?_⟩
        rw [it_pos HI.out, HP.out]
        omega
      · have hd2 : (10 : Int) ≤ (dv : Int) := by omega
        have HN : Hid (nmT D = none) := hide (by rw [HW.out, numF_none hlt HNF.out (HF.out hd)]; rfl)
        clear HT HF
        go_wp2_with fail
        refine HG.out.mono ?_
        rintro e w3 ⟨rfl, rfl⟩
        go_wp2
        go_ret2
        exact ⟨_, by rw [HN.out]; rfl, by rw [HN.out]; simp, HB.out⟩
    · have nx := it_stop (P := Tryz.prog) hI hlt
      have HB := hide hB
      obtain rfl : pos = D.length := by omega
      rw [List.take_length] at hnf
      clear hI hB
      by_cases hmw : m ≤ 4294967295
      · have HN : Hid (nmT D = some m) := hide (by rw [HW.out, hnf]; simp [hmw])
        have hmi : (m : Int) ≤ 4294967295 := by omega
        have hwr : IntKind.u32.wrap (m : Int) = (m : Int) := by rw [IntKind.wrap_u32]; omega
        clear hnf HW
        go_wp2
        go_ret2
        exact ⟨_, by rw [HN.out]; rfl, by rw [HN.out]; simp, HB.out⟩
      · have HN : Hid (nmT D = none) := hide (by rw [HW.out, hnf]; simp [hmw])
        have hmi : ¬ (m : Int) ≤ 4294967295 := by omega
        obtain ⟨x, hwr⟩ : ∃ x, IntKind.u32.wrap (m : Int) = x := ⟨_, rfl⟩
        clear hnf HW
        go_wp2
        go_ret2
        exact ⟨_, by rw [HN.out]; rfl, by rw [HN.out]; simp, HB.out⟩
end
end Go.Proofs.YtiafodeabdhcoaaGreatDoor

namespace Go.Proofs.YtiafodeabdhcoaaGreatDoor
open Go.RowKit
def tkL (t : Tk) : List Value := [.int .i64 (t.kind : Nat), .string ⟨t.text.toArray⟩, .int .u32 (t.val : Nat), .int .i64 (t.line : Nat)]
theorem info_tk : (Tryz.prog.info? 115).map (·.size) = some 4 := by kernel_rfl
theorem run_at {s : Tx} {k : Nat} (hk : k < s.length) (h0 : ∀ j (hj : j < s.length), j < k → (isLet s[j] || isDig s[j]) = true) (h1 : (isLet s[k] || isDig s[k]) = false) : runT s = s.take k := by
  unfold runT
  induction k generalizing s with
  | zero =>
    cases s with
    | nil => rfl
    | cons c r => simp only [List.getElem_cons_zero] at h1; simp [h1]
  | succ k ih =>
    cases s with
    | nil => simp at hk
    | cons c r =>
      have hc := h0 0 (by simp) (by omega)
      simp only [List.getElem_cons_zero] at hc
      rw [List.takeWhile_cons, if_pos hc, List.take_succ_cons]
      congr 1
      refine ih (by simpa using hk) (fun j hj h => ?_) (by simpa using h1)
      have := h0 (j + 1) (by simp; omega) (by omega)
      simpa using this
theorem run_all {s : Tx} (h0 : ∀ j (hj : j < s.length), (isLet s[j] || isDig s[j]) = true) : runT s = s := by
  unfold runT
  induction s with
  | nil => rfl
  | cons c r ih =>
    have hc := h0 0 (by simp)
    simp only [List.getElem_cons_zero] at hc
    rw [List.takeWhile_cons, if_pos hc]
    congr 1
    exact ih fun j hj => by
      have := h0 (j + 1) (by simp; omega)
      simpa using this
theorem run_len (s : Tx) : (runT s).length ≤ s.length := by unfold runT; exact (List.takeWhile_sublist _).length_le
section
variable (w : World)
theorem lineLength_any (l : Tx) : Calls Tryz.prog 49 #[.string ⟨l.toArray⟩] w fun e w' => e = .returned (.int .i64 (lnLen l : Nat)) ∧ w' = w := by
  have H := hide (Tryz.idxByte l 10 w)
  by_cases h : 0 ≤ Lib.indexByte l 10
  · have HV : Hid ((lnLen l : Int) = Lib.indexByte l 10) := hide (by unfold lnLen; rw [if_pos h]; omega)
    change Hid (Calls _ _ _ _ fun e w' => e = .returned (.int .i64 (Lib.indexByte l 10)) ∧ w' = w) at H
    generalize Lib.indexByte l 10 = z at *
    go_enter Tryz.func49, Tryz.ntmps49
    go_wp2_with fail
    refine H.out.mono ?_
    rintro e w1 ⟨rfl, rfl⟩
    go_wp2
    go_ret
    exact ⟨by rw [HV.out]; rfl, rfl⟩
  · have HV : Hid (lnLen l = l.length) := hide (by unfold lnLen; rw [if_neg h])
    change Hid (Calls _ _ _ _ fun e w' => e = .returned (.int .i64 (Lib.indexByte l 10)) ∧ w' = w) at H
    generalize Lib.indexByte l 10 = z at *
    go_enter Tryz.func49, Tryz.ntmps49
    go_wp2_with fail
    refine H.out.mono ?_
    rintro e w1 ⟨rfl, rfl⟩
    go_wp2
    go_ret
    exact ⟨by rw [HV.out]; rfl, rfl⟩
set_option maxRecDepth 100000 in
set_option maxHeartbeats 1000000 in
theorem firstRun_any (l : Tx) (hl : l.length ≤ 16384) : Calls Tryz.prog 74 #[.string ⟨l.toArray⟩] w fun e w' => e = .returned (.string ⟨(runT l).toArray⟩) ∧ Below w.heap.size w w' := by
  go_enter Tryz.func74, Tryz.ntmps74
  go_upto_region 2 with fail
  go_loopw [2] (fun u wr => ∃ pos : Nat, u = .string ⟨#[]⟩ ∧ pos ≤ l.length ∧ (∀ j (hj : j < l.length), j < pos → (isLet l[j] || isDig l[j]) = true) ∧ It wr w.heap.size ⟨l.toArray⟩ pos ∧ Below w.heap.size w wr) (fun _ wr => l.length - itPos wr w.heap.size)
  case atStart => exact ⟨0, rfl, by omega, fun j _ h => by omega, heap_alloc_last _ _, bel1 _ _⟩
  case round =>
  obtain ⟨pos, rfl, hp, hno, hI, hB⟩ := hrel
  by_cases hlt : pos < l.length
  · obtain ⟨c, q, nx, hq, hql, hc⟩ := it_step (P := Tryz.prog) hI hlt
    have HI := hide (it_to hI q)
    have HB := hide (it_below (s := ⟨l.toArray⟩) hB (Nat.le_refl _) q)
    have HP := hide (it_pos hI)
    have HN := hide hno
    have HT : Hid ((letN c || digN c) = true → q = pos + 1 ∧ c = l[pos].toNat) := hide (by
      intro h
      rcases hc with ⟨_, h1, h2⟩ | ⟨h1, _⟩
      · exact ⟨h2, h1⟩
      · rw [let_hi h1, dig_hi h1] at h; simp at h)
    have HF : Hid ((letN c || digN c) = false → runT l = l.take pos) := hide (by
      intro h
      refine run_at hlt (fun j hj h => hno j hj h) ?_
      rw [let_byte, dig_byte]
      rcases hc with ⟨_, h1, h2⟩ | ⟨h1, _, h3⟩
      · rw [← h1]; exact h
      · have h4 := h3 pos hlt (Nat.le_refl _) hq
        rw [let_hi h4, dig_hi h4]; rfl)
    have HL := hide (tLetter_any (World.itTo wr w.heap.size ⟨l.toArray⟩ q) c)
    have HG := hide (tDigit1_any (World.itTo wr w.heap.size ⟨l.toArray⟩ q) c)
    have e1 := ext_mk l 0 pos
    rw [List.drop_zero] at e1
    clear hc hI hB hno
    cases hx : letN c with
    | true =>
      rw [hx] at HL HT HF
      have hx2 := hide hx
      clear hx
      go_wp2_with fail
      refine HL.out.mono ?_
      rintro e w1 ⟨rfl, rfl⟩
      go_wp2
      obtain ⟨e1, e2⟩ := HT.out rfl
      refine ⟨⟨q, rfl, hql, fun j hj hjq => ?_, HI.out, HB.out⟩, ?_⟩
      · by_cases hjp : j < pos
        · exact HN.out j hj hjp
        · obtain rfl : j = pos := by omega
          rw [let_byte, dig_byte, ← e2, hx2.out]; rfl
      · rw [it_pos HI.out, HP.out]
        omega
    | false =>
      rw [hx] at HL HT HF
      cases hy : digN c with
      | true =>
        rw [hy] at HG HT HF
        go_wp2_with fail
        refine HL.out.mono ?_
        rintro e w1 ⟨rfl, rfl⟩
        go_wp2_with fail
        refine HG.out.mono ?_
        rintro e w1 ⟨rfl, rfl⟩
        go_wp2
        obtain ⟨e1, e2⟩ := HT.out rfl
        refine ⟨⟨q, rfl, hql, fun j hj hjq => ?_, HI.out, HB.out⟩, ?_⟩
        · by_cases hjp : j < pos
          · exact HN.out j hj hjp
          · obtain rfl : j = pos := by omega
            rw [let_byte, dig_byte, ← e2, hy]; simp
        · rw [it_pos HI.out, HP.out]
          omega
      | false =>
        rw [hy] at HG HT HF
        have HR := hide (HF.out rfl)
        clear HT HF hx hy
        go_wp2_with fail
        refine HL.out.mono ?_
        rintro e w1 ⟨rfl, rfl⟩
        go_wp2_with fail
        refine HG.out.mono ?_
        rintro e w1 ⟨rfl, rfl⟩
        go_wp2
        go_ret
        exact ⟨by rw [HR.out]; rfl, HB.out⟩
  · have nx := it_stop (P := Tryz.prog) hI hlt
    have HB := hide hB
    have HV : Hid (runT l = l) := hide (run_all fun j hj => hno j hj (by omega))
    clear hI hB hno
    go_wp2
    go_ret
    exact ⟨by rw [HV.out]; rfl, HB.out⟩
end
end Go.Proofs.YtiafodeabdhcoaaGreatDoor

namespace Go.Proofs.YtiafodeabdhcoaaGreatDoor
open Go.RowKit
section
variable (w : World)
set_option maxRecDepth 100000 in
set_option maxHeartbeats 1000000 in
theorem runToken_any (l : Tx) (h0 : l ≠ []) (hl : l.length ≤ 16384) (hG : Lg w) : Calls Tryz.prog 75 #[.string ⟨l.toArray⟩] w fun e w' => e = .returned (.agg (tkL (runTk l)).toArray) ∧ Below w.heap.size w w' := by
  have hb0 := bel1 w (.cells (tkL tk0).toArray 115)
  have HG1 := hide (hG.below hb0)
  have hK0 := Blk.new w (tkL tk0) 115
  have H1 := hide (isWord_any (w.alloc (.cells (tkL tk0).toArray 115)) l HG1.out)
  clear hG
  go_enter Tryz.func75, Tryz.ntmps75
  go_wp2_with fail
  refine H1.out.mono ?_
  rintro e w1 ⟨rfl, hb1⟩
  have HB1 := hide (hb0.trans (hb1.mono (by simp)))
  have HK := hide (hK0.below hb1 (by simp))
  have hs1 := hb1.size
  simp only [World.size_alloc] at hs1
  clear hb0 hb1 hK0 H1
  cases hx : isWd l with
  | true =>
    have HV : Hid (runTk l = ⟨2, l, 0, 0⟩) := hide (by unfold runTk; rw [hx]; rfl)
    go_wp2_with (refine storeB [.int .i64 2, .string ⟨l.toArray⟩, .int .u32 0, .int .i64 0] info_tk rfl rfl _ _ rfl w.heap.size rfl rfl _ HK.out rfl ?_)
    refine bodyPost_ret (results_cell_row rfl _ _ w.heap.size 115 (List.toArray [.int .i64 2, .string ⟨l.toArray⟩, .int .u32 0, .int .i64 0]) (0, 0) _ rfl (HK.out.put _).out Tryz.underlying115 rfl info_tk) rfl ?_
    exact ⟨by rw [HV.out]; rfl, putB_below HB1.out (Nat.le_refl _) _ _⟩
  | false =>
    have H2 := hide (tNumber_any w1 l hl)
    go_wp2_with fail
    refine H2.out.mono ?_
    rintro e w2 ⟨v, rfl, hv, hb2⟩
    have HB2 := hide (HB1.out.trans (hb2.mono (by omega)))
    have HK2 := hide (HK.out.below hb2 (by omega))
    clear hb2 H2 HB1 HK
    have HK := HK2
    clear HK2
    cases hn : nmT l with
    | some n =>
      obtain rfl := hv n hn
      have HV : Hid (runTk l = ⟨3, l, n, 0⟩) := hide (by unfold runTk; rw [hx, hn]; rfl)
      clear hv hn hx
      go_wp2_with (refine storeB [.int .i64 3, .string ⟨l.toArray⟩, .int .u32 (n : Int), .int .i64 0] info_tk rfl rfl _ _ rfl w.heap.size rfl rfl _ HK.out rfl ?_)
      refine bodyPost_ret (results_cell_row rfl _ _ w.heap.size 115 (List.toArray [.int .i64 3, .string ⟨l.toArray⟩, .int .u32 (n : Int), .int .i64 0]) (0, 0) _ rfl (HK.out.put _).out Tryz.underlying115 rfl info_tk) rfl ?_
      exact ⟨by rw [HV.out]; rfl, putB_below HB2.out (Nat.le_refl _) _ _⟩
    | none =>
      obtain ⟨c, r, hcr⟩ := List.exists_cons_of_ne_nil h0
      have hpos : 0 < l.length := List.length_pos_iff.2 h0
      have hh : l.head? = some c := by rw [hcr]; rfl
      have hx0 : ∀ h, (⟨l.toArray⟩ : ByteArray)[0]'h = c := by subst hcr; intro h; rfl
      clear hcr
      have HD := hide (tDigit1_any w2 c.toNat)
      have hw32 : wrap32 (c.toNat : Int) = (c.toNat : Int) := by have := c.toNat_lt; unfold wrap32; omega
      by_cases h16 : l.length ≤ 16
      · have h16i : (l.length : Int) ≤ 16 := by omega
        cases hd : isDig c with
        | true =>
          have HV : Hid (runTk l = tk0) := hide (by unfold runTk; rw [hx, hn]; simp [hd, hh])
          rw [show digN c.toNat = true from hd] at HD
          clear hv hn hx hd
          go_wp2_with fail
          refine HD.out.mono ?_
          rintro e w3 ⟨rfl, rfl⟩
          go_wp2_with (refine storeB [.int .i64 0, .string ⟨#[]⟩, .int .u32 0, .int .i64 0] info_tk rfl rfl _ _ rfl w.heap.size rfl rfl _ HK.out rfl ?_)
          refine bodyPost_ret (results_cell_row rfl _ _ w.heap.size 115 (List.toArray [.int .i64 0, .string ⟨#[]⟩, .int .u32 0, .int .i64 0]) (0, 0) _ rfl (HK.out.put _).out Tryz.underlying115 rfl info_tk) rfl ?_
          exact ⟨by rw [HV.out]; rfl, putB_below HB2.out (Nat.le_refl _) _ _⟩
        | false =>
          have HV : Hid (runTk l = ⟨4, l, 0, 0⟩) := hide (by unfold runTk; rw [hx, hn]; simp only [hh, Option.map_some, Option.getD_some, hd]; rw [if_neg (by simp), if_pos (by simpa using h16)])
          rw [show digN c.toNat = false from hd] at HD
          clear hv hn hx hd
          go_wp2_with fail
          refine HD.out.mono ?_
          rintro e w3 ⟨rfl, rfl⟩
          go_wp2_with (refine storeB [.int .i64 4, .string ⟨l.toArray⟩, .int .u32 0, .int .i64 0] info_tk rfl rfl _ _ rfl w.heap.size rfl rfl _ HK.out rfl ?_)
          refine bodyPost_ret (results_cell_row rfl _ _ w.heap.size 115 (List.toArray [.int .i64 4, .string ⟨l.toArray⟩, .int .u32 0, .int .i64 0]) (0, 0) _ rfl (HK.out.put _).out Tryz.underlying115 rfl info_tk) rfl ?_
          exact ⟨by rw [HV.out]; rfl, putB_below HB2.out (Nat.le_refl _) _ _⟩
      · have h16i : ¬ (l.length : Int) ≤ 16 := by omega
        have HV : Hid (runTk l = tk0) := hide (by unfold runTk; rw [hx, hn]; simp at h16; simp; omega)
        clear hv hn hx HD
        go_wp2_with (refine storeB [.int .i64 0, .string ⟨#[]⟩, .int .u32 0, .int .i64 0] info_tk rfl rfl _ _ rfl w.heap.size rfl rfl _ HK.out rfl ?_)
        refine bodyPost_ret (results_cell_row rfl _ _ w.heap.size 115 (List.toArray [.int .i64 0, .string ⟨#[]⟩, .int .u32 0, .int .i64 0]) (0, 0) _ rfl (HK.out.put _).out Tryz.underlying115 rfl info_tk) rfl ?_
        exact ⟨by rw [HV.out]; rfl, putB_below HB2.out (Nat.le_refl _) _ _⟩
end
end Go.Proofs.YtiafodeabdhcoaaGreatDoor

namespace Go.Proofs.YtiafodeabdhcoaaGreatDoor
open Go.RowKit
section
variable (w : World)
set_option maxRecDepth 100000 in
set_option maxHeartbeats 1000000 in
theorem firstToken_any (l : Tx) (h0 : l ≠ []) (hl : l.length ≤ 16384) (hG : Lg w) : Calls Tryz.prog 50 #[.string ⟨l.toArray⟩] w fun e w' => e = .returned (.agg (tkL (fstTk l)).toArray) ∧ Below w.heap.size w w' := by
  have hb0 := bel1 w (.cells (tkL tk0).toArray 115)
  have HG1 := hide (hG.below hb0)
  have hK0 := Blk.new w (tkL tk0) 115
  have H1 := hide (firstRun_any (w.alloc (.cells (tkL tk0).toArray 115)) l hl)
  have hpos : 0 < l.length := List.length_pos_iff.2 h0
  have hrl := run_len l
  clear hG
  go_enter Tryz.func50, Tryz.ntmps50
  go_wp2_with fail
  refine H1.out.mono ?_
  rintro e w1 ⟨rfl, hb1⟩
  have HB1 := hide (hb0.trans (hb1.mono (by simp)))
  have HK := hide (hK0.below hb1 (by simp))
  have HG2 := hide (HG1.out.below hb1)
  have hs1 := hb1.size
  simp only [World.size_alloc] at hs1
  clear hb0 hb1 hK0 H1 HG1
  by_cases hr : runT l = []
  · have HV0 : Hid (fstTk l = if 1 < l.length ∧ lvT (l.take 2) ≠ 0 then ⟨5, l.take 2, 0, 0⟩ else if Lib.contains sgnT (l.take 1) = true then ⟨5, l.take 1, 0, 0⟩ else tk0) := hide (by unfold fstTk; rw [if_neg (by simp [hr])])
    rw [hr]
    clear hr hrl
    have e1 := ext_mk l 0 1
    rw [List.drop_zero] at e1
    by_cases h1 : 1 < l.length
    · have e2 := ext_mk l 0 2
      rw [List.drop_zero] at e2
      have h1i : (1 : Int) < (l.length : Int) := by omega
      have HL := hide (level_any w1 (l.take 2) HG2.out)
      by_cases hv : lvT (l.take 2) = 0
      · have HV1 := hide (HV0.out.trans (if_neg (by simp [hv])))
        clear HV0
        have HV0 := HV1
        clear HV1
        rw [hv] at HL
        clear hv
        go_wp2_with fail
        refine HL.out.mono ?_
        rintro e w2 ⟨rfl, hb2⟩
        have HB2 := hide (HB1.out.trans (hb2.mono (by omega)))
        have HK2 := hide (HK.out.below hb2 (by omega))
        have HG3 := hide (HG2.out.below hb2)
        clear hb2 HB1 HK HG2 HL
        have HK := HK2
        have HG2 := HG3
        clear HK2 HG3
        obtain ⟨m, hm⟩ := HG2.out.m
        have HC := hide (Tryz.conts sgnT (l.take 1) m w2 (by decide) hm)
        clear hm
        cases hc : Lib.contains sgnT (l.take 1) with
        | true =>
          have HV := hide (HV0.out.trans (if_pos hc))
          rw [hc] at HC
          clear hc HV0
          go_wp2_with fail
          refine HC.out.mono ?_
          rintro e w5 ⟨rfl, rfl⟩
          go_wp2_with (refine storeB [.int .i64 5, .string ⟨(l.take 1).toArray⟩, .int .u32 0, .int .i64 0] info_tk rfl rfl _ _ rfl w.heap.size rfl rfl _ HK.out rfl ?_)
          refine bodyPost_ret (results_cell_row rfl _ _ w.heap.size 115 (List.toArray [.int .i64 5, .string ⟨(l.take 1).toArray⟩, .int .u32 0, .int .i64 0]) (0, 0) _ rfl (HK.out.put _).out Tryz.underlying115 rfl info_tk) rfl ?_
          exact ⟨by rw [HV.out]; rfl, putB_below HB2.out (Nat.le_refl _) _ _⟩
        | false =>
          have HV := hide (HV0.out.trans (if_neg (by rw [hc]; simp)))
          rw [hc] at HC
          clear hc HV0
          go_wp2_with fail
          refine HC.out.mono ?_
          rintro e w5 ⟨rfl, rfl⟩
          go_wp2_with (refine storeB [.int .i64 0, .string ⟨#[]⟩, .int .u32 0, .int .i64 0] info_tk rfl rfl _ _ rfl w.heap.size rfl rfl _ HK.out rfl ?_)
          refine bodyPost_ret (results_cell_row rfl _ _ w.heap.size 115 (List.toArray [.int .i64 0, .string ⟨#[]⟩, .int .u32 0, .int .i64 0]) (0, 0) _ rfl (HK.out.put _).out Tryz.underlying115 rfl info_tk) rfl ?_
          exact ⟨by rw [HV.out]; rfl, putB_below HB2.out (Nat.le_refl _) _ _⟩
      · have HV := hide (HV0.out.trans (if_pos ⟨h1, hv⟩))
        have hvb : ((lvT (l.take 2) : Int) != 0) = true := by simpa using hv
        clear HV0 hv
        generalize hlv : lvT (l.take 2) = lv at *
        clear hlv
        go_wp2_with fail
        refine HL.out.mono ?_
        rintro e w2 ⟨rfl, hb2⟩
        have HB2 := hide (HB1.out.trans (hb2.mono (by omega)))
        have HK2 := hide (HK.out.below hb2 (by omega))
        clear hb2 HB1 HK HL HG2
        have HK := HK2
        clear HK2
        go_wp2_with (refine storeB [.int .i64 5, .string ⟨(l.take 2).toArray⟩, .int .u32 0, .int .i64 0] info_tk rfl rfl _ _ rfl w.heap.size rfl rfl _ HK.out rfl ?_)
        refine bodyPost_ret (results_cell_row rfl _ _ w.heap.size 115 (List.toArray [.int .i64 5, .string ⟨(l.take 2).toArray⟩, .int .u32 0, .int .i64 0]) (0, 0) _ rfl (HK.out.put _).out Tryz.underlying115 rfl info_tk) rfl ?_
        exact ⟨by rw [HV.out]; rfl, putB_below HB2.out (Nat.le_refl _) _ _⟩
    · have HV1 := hide (HV0.out.trans (if_neg (by simp [h1])))
      clear HV0
      have HV0 := HV1
      clear HV1
      have h1i : ¬ (1 : Int) < (l.length : Int) := by omega
      obtain ⟨m, hm⟩ := HG2.out.m
      have HC := hide (Tryz.conts sgnT (l.take 1) m w1 (by decide) hm)
      clear hm
      cases hc : Lib.contains sgnT (l.take 1) with
      | true =>
        have HV := hide (HV0.out.trans (if_pos hc))
        rw [hc] at HC
        clear hc HV0
        go_wp2_with fail
        refine HC.out.mono ?_
        rintro e w5 ⟨rfl, rfl⟩
        go_wp2_with (refine storeB [.int .i64 5, .string ⟨(l.take 1).toArray⟩, .int .u32 0, .int .i64 0] info_tk rfl rfl _ _ rfl w.heap.size rfl rfl _ HK.out rfl ?_)
        refine bodyPost_ret (results_cell_row rfl _ _ w.heap.size 115 (List.toArray [.int .i64 5, .string ⟨(l.take 1).toArray⟩, .int .u32 0, .int .i64 0]) (0, 0) _ rfl (HK.out.put _).out Tryz.underlying115 rfl info_tk) rfl ?_
        exact ⟨by rw [HV.out]; rfl, putB_below HB1.out (Nat.le_refl _) _ _⟩
      | false =>
        have HV := hide (HV0.out.trans (if_neg (by rw [hc]; simp)))
        rw [hc] at HC
        clear hc HV0
        go_wp2_with fail
        refine HC.out.mono ?_
        rintro e w5 ⟨rfl, rfl⟩
        go_wp2_with (refine storeB [.int .i64 0, .string ⟨#[]⟩, .int .u32 0, .int .i64 0] info_tk rfl rfl _ _ rfl w.heap.size rfl rfl _ HK.out rfl ?_)
        refine bodyPost_ret (results_cell_row rfl _ _ w.heap.size 115 (List.toArray [.int .i64 0, .string ⟨#[]⟩, .int .u32 0, .int .i64 0]) (0, 0) _ rfl (HK.out.put _).out Tryz.underlying115 rfl info_tk) rfl ?_
        exact ⟨by rw [HV.out]; rfl, putB_below HB1.out (Nat.le_refl _) _ _⟩
  · have HV : Hid (fstTk l = runTk (runT l)) := hide (by unfold fstTk; rw [if_pos hr])
    have HR := hide (runToken_any w1 (runT l) hr (by omega) HG2.out)
    have hre : List.isEmpty (runT l) = false := by simpa using hr
    generalize runT l = s at *
    clear hr
    go_wp2_with (first | (refine storeB (tkL (runTk s)) info_tk rfl rfl _ _ rfl w.heap.size rfl rfl _ HK.out rfl ?_) | fail)
    refine HR.out.mono ?_
    rintro e w2 ⟨rfl, hb2⟩
    have HB2 := hide (HB1.out.trans (hb2.mono (by omega)))
    have HK2 := hide (HK.out.below hb2 (by omega))
    clear hb2 HB1 HK HG2
    have HK := HK2
    clear HK2
    go_wp2_with (refine storeB (tkL (runTk s)) info_tk rfl rfl _ _ rfl w.heap.size rfl rfl _ HK.out rfl ?_)
    refine bodyPost_ret (results_cell_row rfl _ _ w.heap.size 115 (List.toArray (tkL (runTk s))) (0, 0) _ rfl (HK.out.put _).out Tryz.underlying115 rfl info_tk) rfl ?_
    exact ⟨by rw [HV.out], putB_below HB2.out (Nat.le_refl _) _ _⟩
end
end Go.Proofs.YtiafodeabdhcoaaGreatDoor

namespace Go.Proofs.YtiafodeabdhcoaaGreatDoor
open Go.RowKit
theorem index_one (c : UInt8) : ∀ s : Tx, decide (0 ≤ Lib.index s [c]) = s.contains c
  | [] => by simp [Lib.index]
  | b :: r => by
    have ih := index_one c r
    rw [Lib.index]
    by_cases h : c = b
    · subst h; simp
    · have h1 : ([c] : Tx).isPrefixOf (b :: r) = false := by simp [List.isPrefixOf, h]
      rw [h1]
      simp only [Bool.false_eq_true, if_false]
      have h2 : (b :: r).contains c = r.contains c := by simp [h]
      rw [h2, ← ih]
      have hg := Lib.index_ge r [c]
      by_cases h3 : Lib.index r [c] = -1
      · simp [h3]
      · have : (Lib.index r [c] == -1) = false := by simpa using h3
        rw [this]
        simp only [Bool.false_eq_true, if_false]
        congr 1
        simp; omega
theorem cont_one (s : Tx) (c : UInt8) : Lib.contains s [c] = s.contains c := index_one c s
theorem ops_ascii : ∀ o ∈ opsT, ∀ c ∈ o.1, c.toNat < 128 ∧ c ≠ 10 := by decide
theorem sgn_ascii : ∀ c ∈ sgnT, c.toNat < 128 ∧ c ≠ 10 := by decide
theorem wordy_ascii {c : UInt8} (h : (isLet c || isDig c) = true) : c.toNat < 128 ∧ c ≠ 10 := by
  have h1 : c.toNat < 128 ∧ c.toNat ≠ 10 := by
    simp only [isLet, isDig, Bool.or_eq_true, Bool.and_eq_true, decide_eq_true_eq] at h
    omega
  exact ⟨h1.1, fun e => by subst e; exact h1.2 rfl⟩
theorem tk_take (s : Tx) : ∃ n, runT s = s.take n ∧ n ≤ s.length ∧ ∀ j (hj : j < s.length), j < n → (isLet s[j] || isDig s[j]) = true := by
  unfold runT
  induction s with
  | nil => exact ⟨0, rfl, Nat.le_refl _, fun j hj => by simp at hj⟩
  | cons c r ih =>
    rw [List.takeWhile_cons]
    split
    · next h =>
      obtain ⟨n, h1, h2, h3⟩ := ih
      refine ⟨n + 1, by rw [h1, List.take_succ_cons], by simpa using h2, fun j hj hn => ?_⟩
      cases j with
      | zero => exact h
      | succ j => simpa using h3 j (by simpa using hj) (by omega)
    · exact ⟨0, rfl, Nat.zero_le _, fun j hj h => by omega⟩
theorem runTk_text (s : Tx) : (runTk s).kind = 0 ∧ runTk s = tk0 ∨ (2 ≤ (runTk s).kind ∧ (runTk s).kind ≤ 4 ∧ (runTk s).text = s) := by
  unfold runTk
  split
  · exact .inr ⟨Nat.le_refl _, by show 2 ≤ 4; decide, rfl⟩
  · split
    · exact .inr ⟨by show 2 ≤ 3; decide, by show 3 ≤ 4; decide, rfl⟩
    · split
      · exact .inr ⟨by show 2 ≤ 4; decide, Nat.le_refl _, rfl⟩
      · exact .inl ⟨rfl, rfl⟩
theorem fst_zero {s : Tx} (h : (fstTk s).kind = 0) : fstTk s = tk0 := by
  unfold fstTk at h ⊢
  split
  · next h1 =>
    rw [if_pos h1] at h
    rcases runTk_text (runT s) with ⟨_, h2⟩ | ⟨h2, _⟩
    · exact h2
    · omega
  · next h1 =>
    rw [if_neg h1] at h
    split
    · next h2 => rw [if_pos h2] at h; cases h
    · next h2 =>
      rw [if_neg h2] at h
      split
      · next h3 => rw [if_pos h3] at h; cases h
      · rfl
/-- a token's text: the first bytes, all ASCII -/
theorem fst_ok {s : Tx} (hs : s ≠ []) (h : (fstTk s).kind ≠ 0) : ∃ n, (fstTk s).text = s.take n ∧ 1 ≤ n ∧ n ≤ s.length ∧ (∀ j (hj : j < s.length), j < n → s[j].toNat < 128 ∧ s[j] ≠ 10) ∧ 2 ≤ (fstTk s).kind ∧ (fstTk s).line = 0 := by
  unfold fstTk at h ⊢
  split
  · next h1 =>
    rw [if_pos h1] at h
    obtain ⟨n, e1, e2, e3⟩ := tk_take s
    rcases runTk_text (runT s) with ⟨h2, _⟩ | ⟨h2, _, h3⟩
    · exact absurd h2 h
    · refine ⟨n, by rw [h3, e1], ?_, e2, fun j hj hn => wordy_ascii (e3 j hj hn), h2, ?_⟩
      · rcases Nat.eq_zero_or_pos n with h0 | h0
        · subst h0; rw [e1] at h1; simp at h1
        · exact h0
      · unfold runTk
        split
        · rfl
        · split
          · rfl
          · split <;> rfl
  · next h1 =>
    rw [if_neg h1] at h
    split
    · next h2 =>
      refine ⟨2, rfl, by decide, by omega, fun j hj hn => ?_, by show 2 ≤ 5; decide, rfl⟩
      unfold lvT at h2
      cases hf : opsT.find? (fun o => o.1 == s.take 2) with
      | none => rw [hf] at h2; simp at h2
      | some o =>
        have hm := List.mem_of_find?_eq_some hf
        have ho := List.find?_some hf
        simp only [beq_iff_eq] at ho
        refine ops_ascii o hm s[j] ?_
        rw [ho]
        exact List.mem_take_iff_getElem.2 ⟨j, by omega, rfl⟩
    · next h2 =>
      rw [if_neg h2] at h
      split
      · next h3 =>
        cases s with
        | nil => exact absurd rfl hs
        | cons c r =>
          refine ⟨1, rfl, by decide, by simp, fun j hj hn => ?_, by show 2 ≤ 5; decide, rfl⟩
          obtain rfl : j = 0 := by omega
          simp only [List.take_succ_cons, List.take_zero] at h3
          rw [cont_one] at h3
          exact sgn_ascii c (by simpa using h3)
      · next h3 => rw [if_neg h3] at h; exact absurd rfl h
/-- what is gone by: bytes that end no line -/
theorem cut_skip (ln : Nat) : ∀ (n : Nat) (s : Tx) (sk : Nat), n ≤ sk → n ≤ s.length → (∀ j (hj : j < s.length), j < n → s[j] ≠ 10) → cutF sk ln s = cutF (sk - n) ln (s.drop n)
  | 0, s, sk, _, _, _ => by simp
  | n + 1, [], sk, _, h, _ => by simp at h
  | n + 1, c :: r, sk, hs, hl, h => by
    have hc := h 0 (by simp) (by omega)
    simp only [List.getElem_cons_zero] at hc
    rw [cutF, if_neg hc, if_pos (by omega), List.drop_succ_cons]
    rw [cut_skip ln n r (sk - 1) (by omega) (by simpa using hl) (fun j hj hn => by have := h (j + 1) (by simp; omega) (by omega); rwa [List.getElem_cons_succ] at this)]
    congr 1
    omega
theorem idx_ok (s : Tx) (m : UInt8) (h : 0 ≤ Lib.indexByte s m) : ∃ hk : (Lib.indexByte s m).toNat < s.length, s[(Lib.indexByte s m).toNat] = m := by
  induction s with
  | nil => simp [Lib.indexByte] at h
  | cons b r ih =>
    rw [Lib.indexByte] at h
    by_cases h1 : (b == m) = true
    · have e : Lib.indexByte (b :: r) m = 0 := by rw [Lib.indexByte, if_pos h1]
      simp only [e]
      exact ⟨by simp, by simpa using h1⟩
    · rw [if_neg h1] at h
      by_cases h2 : (Lib.indexByte r m == -1) = true
      · rw [if_pos h2] at h; simp at h
      · rw [if_neg h2] at h
        have hg := Lib.indexByte_ge r m
        have h2' : Lib.indexByte r m ≠ -1 := by simpa using h2
        obtain ⟨k1, k2⟩ := ih (by omega)
        have e : (Lib.indexByte (b :: r) m).toNat = (Lib.indexByte r m).toNat + 1 := by rw [Lib.indexByte, if_neg h1, if_neg h2]; omega
        simp only [e]
        exact ⟨by simpa using k1, by simpa using k2⟩
theorem lnLen_le (s : Tx) : lnLen s ≤ s.length := by
  unfold lnLen
  split
  · next h => have := (idx_ok s 10 h).1; omega
  · exact Nat.le_refl _
theorem lnLen_end (s : Tx) : ∀ h : lnLen s < s.length, s[lnLen s] = 10 := by
  intro h
  by_cases hx : 0 ≤ Lib.indexByte s 10
  · obtain ⟨k1, k2⟩ := idx_ok s 10 hx
    have e : lnLen s = (Lib.indexByte s 10).toNat := by unfold lnLen; rw [if_pos hx]
    simp only [e]
    exact k2
  · have e : lnLen s = s.length := by unfold lnLen; rw [if_neg hx]
    omega
/-- what is gone by ends with a line's end, or is ASCII -/
def Sk (l : Tx) (pos past : Nat) : Prop := past ≤ l.length ∧ ((∀ j (hj : j < l.length), pos ≤ j → j < past → l[j].toNat < 128) ∨ ∀ h : past < l.length, l[past] = 10)
theorem Sk.next {l : Tx} {pos past q : Nat} (h : Sk l pos past) (hq : pos ≤ q) : Sk l q past := ⟨h.1, h.2.imp (fun h1 j hj h2 h3 => h1 j hj (by omega) h3) id⟩
theorem Sk.none {l : Tx} {pos past : Nat} (h : past ≤ pos) (hl : pos ≤ l.length) : Sk l pos past := ⟨by omega, .inl fun j hj h1 h2 => by omega⟩
/-- a step in what is gone by -/
theorem step_skip {l : Tx} {pos past q ln c : Nat} (hp : pos < l.length) (h : Sk l pos past) (hlt : pos < past) (hq : q ≤ l.length)
    (hc : (c < 128 ∧ c = l[pos].toNat ∧ q = pos + 1) ∨ (128 ≤ c ∧ c ≤ 1114111 ∧ ∀ j (hj : j < l.length), pos ≤ j → j < q → 128 ≤ l[j].toNat)) (hpq : pos < q) (h10 : c ≠ 10) :
    cutF (past - pos) ln (l.drop pos) = cutF (past - q) ln (l.drop q) := by
  have hne : ∀ j (hj : j < l.length), pos ≤ j → j < q → l[j] ≠ 10 := by
    intro j hj h1 h2 e
    rcases hc with ⟨_, h3, h4⟩ | ⟨_, _, h3⟩
    · obtain rfl : j = pos := by omega
      rw [e] at h3; exact h10 h3
    · have := h3 j hj h1 h2
      rw [e] at this; exact absurd this (by decide)
  have hqp : q ≤ past := by
    rcases hc with ⟨_, _, h4⟩ | ⟨_, _, h3⟩
    · omega
    · by_cases hx : past < q
      · rcases h.2 with h5 | h5
        · have h6 := h5 pos hp (Nat.le_refl _) hlt
          have h7 := h3 pos hp (Nat.le_refl _) hpq
          omega
        · have h6 := h5 (by omega)
          exact absurd h6 (hne past (by omega) (by omega) hx)
      · omega
  rw [cut_skip ln (q - pos) (l.drop pos) (past - pos) (by omega) (by simp; omega) (fun j hj hn => by
    simp only [List.getElem_drop]
    simp only [List.length_drop] at hj
    exact hne (pos + j) (by omega) (by omega) (by omega))]
  rw [List.drop_drop, show past - pos - (q - pos) = past - q by omega, show pos + (q - pos) = q by omega]
theorem drop_cons {l : Tx} {pos : Nat} (hp : pos < l.length) : l.drop pos = l[pos] :: l.drop (pos + 1) := List.drop_eq_getElem_cons hp
end Go.Proofs.YtiafodeabdhcoaaGreatDoor

namespace Go.Proofs.YtiafodeabdhcoaaGreatDoor
open Go.RowKit
theorem cat_len {α : Type} (f : α → List Value) (k : Nat) (hf : ∀ x, (f x).length = k) (l : List α) : (l.flatMap f).length = l.length * k := by
  induction l with
  | nil => simp
  | cons x r ih => rw [List.flatMap_cons, List.length_append, ih, hf, List.length_cons, Nat.succ_mul]; omega
theorem cat_at {α : Type} (f : α → List Value) (k : Nat) (hf : ∀ x, (f x).length = k) {l : List α} {i : Nat} (hi : i < l.length) {j : Nat} (hj : j < k) : (l.flatMap f)[i * k + j]? = (f l[i])[j]? := by
  induction l generalizing i with
  | nil => simp at hi
  | cons x r ih =>
    cases i with
    | zero =>
      simp only [List.flatMap_cons, Nat.zero_mul, Nat.zero_add, List.getElem_cons_zero]
      rw [List.getElem?_append_left (by rw [hf]; exact hj)]
    | succ i =>
      simp only [List.flatMap_cons, List.getElem_cons_succ]
      rw [List.getElem?_append_right (by rw [hf, Nat.succ_mul]; omega), hf]
      have e : (i + 1) * k + j - k = i * k + j := by rw [Nat.succ_mul]; omega
      rw [e]
      exact ih (by simpa using hi)
/-- values of k cells lie in a row -/
def RwK (W : World) (ao : Option Addr) (k : Nat) {α : Type} (f : α → List Value) (l : List α) : Prop := ∀ i (h : i < l.length), ∃ a : Addr, ao = some a ∧ ∀ j v, (f l[i])[j]? = some v → W.cell? ((a.add (i * k)).add j) = some v
theorem RwK.keep {W W' : World} {ao : Option Addr} {k : Nat} {α : Type} {f : α → List Value} {l : List α} (h : RwK W ao k f l) (hb : Below W.heap.size W W') : RwK W' ao k f l := fun i hi => by
  obtain ⟨a, h1, h2⟩ := h i hi
  exact ⟨a, h1, fun j v hv => by rw [hb.cell (cell_blk (h2 j v hv))]; exact h2 j v hv⟩
theorem RwK.of {W : World} {base n k : Nat} {e : TypeId} {v : Value} {α : Type} {f : α → List Value} {l : List α} (hf : ∀ x, (f x).length = k) (hk : 0 < k) (h : W.ownsRow base e k v n (l.flatMap f)) : n = l.length ∧ ∃ ao c, v = .slice ao n c ∧ RwK W ao k f l ∧ (∀ a, ao = some a → base ≤ a.block ∧ a.off = 0 ∧ a.spot = none) := by
  have hl := h.1
  rw [cat_len f k hf] at hl
  have hn : n = l.length := (Nat.eq_of_mul_eq_mul_right hk hl).symm
  refine ⟨hn, ?_⟩
  subst hn
  rcases h.2 with ⟨h1, h2⟩ | ⟨g, cap, cur, h1, h2, h3, _, _, _, h7⟩
  · exact ⟨none, 0, by rw [h1, h2], fun j hj => by omega, fun a h => by cases h⟩
  · refine ⟨_, _, h1, fun i hi => ⟨_, rfl, fun j v hv => ?_⟩, fun a h => by cases h; exact ⟨h2, rfl, rfl⟩⟩
    have hj : j < k := by
      have := (List.getElem?_eq_some_iff.1 hv).1
      rwa [hf] at this
    rw [add0, Lib.add_plain, Lib.cell_of_heap h3]
    have e : (cur.toList.take (l.length * k))[i * k + j]? = some v := by rw [h7, cat_at f k hf hi hj]; exact hv
    rw [List.getElem?_take] at e
    split at e
    · rw [← Array.getElem?_toList]; exact e
    · simp at e
theorem ownToK {w : World} {base g k : Nat} {e : TypeId} {v : Value} {n : Nat} {xs : List Value} {s : ByteArray} (q : Nat) (h : w.ownsRow base e k v n xs) (hg : g < base) : (World.itTo w g s q).ownsRow base e k v n xs := by
  obtain ⟨h1, h2 | ⟨j, cap, cur, h2, h3, h4, h5⟩⟩ := h
  · exact ⟨h1, .inl h2⟩
  · refine ⟨h1, .inr ⟨j, cap, cur, h2, h3, ?_, h5⟩⟩
    show (w.heap.setIfInBounds g _)[j]? = _
    rw [Array.getElem?_setIfInBounds, if_neg (by omega)]
    exact h4
theorem tkL_len (t : Tk) : (tkL t).length = 4 := rfl
theorem tkL_one (t : Tk) : ∀ u ∈ tkL t, u.oneCell' = true := by
  intro u hu
  simp [tkL] at hu
  rcases hu with rfl | rfl | rfl | rfl <;> rfl
theorem info_tk4 : ∃ i, Tryz.prog.info? 115 = some i ∧ i.zero = some (.agg (tkL tk0).toArray) ∧ i.size = 4 ∧ i.bytes = 40 := info_parts (by kernel_rfl)
section
variable (w : World)
set_option maxRecDepth 100000 in
set_option maxHeartbeats 2000000 in
theorem cut_any (l : Tx) (hl : l.length ≤ 16384) (hG : Lg w) : Calls Tryz.prog 30 #[.string ⟨l.toArray⟩] w fun e w' => ∃ v, e = .returned v ∧ w'.ownsRow (w.heap.size + 1) 115 4 v (tksT l).length ((tksT l).flatMap tkL) ∧ Below w.heap.size w w' := by
  obtain ⟨i9, hi, hz, hsz9, hb9⟩ := info_tk4
  have HG := hide hG
  clear hG
  go_enter Tryz.func30, Tryz.ntmps30
  go_upto_region 1 with fail
  go_step3
  go_upto_region 4 with fail
  go_step3
  go_upto_region 4 with fail
  go_loopw [2, 3, 4, 5] (fun r v x y wr => ∃ (pos ln past : Nat) (acc : List Tk), r = .slice none 0 0 ∧ x = .int .i64 (ln : Int) ∧ y = .int .i64 (past : Int) ∧ pos ≤ l.length ∧ ln ≤ pos + 1 ∧ acc.length ≤ pos ∧ Sk l pos past ∧ tksT l = acc ++ cutF (past - pos) ln (l.drop pos) ∧ wr.ownsRow (w.heap.size + 1) 115 4 v acc.length (acc.flatMap tkL) ∧ It wr w.heap.size ⟨l.toArray⟩ pos ∧ Below w.heap.size w wr ∧ w.heap.size + 1 ≤ wr.heap.size) (fun _ _ _ _ wr => l.length - itPos wr w.heap.size)
  case atStart => exact ⟨0, 1, 0, [], rfl, rfl, rfl, by omega, by omega, by simp, Sk.none (by omega) (by omega), rfl, ⟨rfl, .inl ⟨rfl, rfl⟩⟩, heap_alloc_last _ _, bel1 _ _, by simp [World.iter]⟩
  case round =>
  obtain ⟨pos, ln, past, acc, rfl, rfl, rfl, hp, hln, hac, hsk, hcut, hO, hI, hB, hsz⟩ := hrel
  obtain ⟨au, cu, rfl⟩ := own_shape hO
  by_cases hlt : pos < l.length
  · obtain ⟨c, q, nx, hq, hql, hc⟩ := it_step (P := Tryz.prog) hI hlt
    have HI := hide (it_to hI q)
    have HB := hide (it_below (s := ⟨l.toArray⟩) hB (Nat.le_refl _) q)
    have HO := hide (ownToK (s := ⟨l.toArray⟩) q hO (Nat.lt_succ_self _))
    have HP := hide (it_pos hI)
    have hsz2 : w.heap.size + 1 ≤ (World.itTo wr w.heap.size ⟨l.toArray⟩ q).heap.size := by rw [itTo_size]; exact hsz
    have HCut := hide hcut
    have HSk := hide hsk
    have HC := hide hc
    clear hI hB hO hcut hsk hc
    generalize World.itTo wr w.heap.size ⟨l.toArray⟩ q = W at *
    by_cases h10 : c = 10
    · have HQ : Hid (q = pos + 1 ∧ l[pos] = 10) := hide (by
        rcases HC.out with ⟨_, h1, h2⟩ | ⟨h1, _⟩
        · exact ⟨h2, UInt8.toNat_inj.1 (h1.symm.trans h10)⟩
        · omega)
      have HE : Hid (tksT l = acc ++ cutF (past - q) (ln + 1) (l.drop q)) := hide (by
        rw [HCut.out, drop_cons hlt, HQ.out.2, cutF, if_pos rfl, HQ.out.1]
        rfl)
      subst h10
      clear HCut HC
      go_wp2
      refine ⟨⟨q, ln + 1, past, acc, rfl, by simp, rfl, hql, by have := HQ.out.1; omega, by omega, HSk.out.next (by omega), HE.out, HO.out, HI.out, HB.out, hsz2⟩, ?_⟩
      rw [it_pos HI.out, HP.out]
      omega
    · have h10b : ((c : Int) == 10) = false := by simp; omega
      by_cases hps : pos < past
      · have HE : Hid (tksT l = acc ++ cutF (past - q) ln (l.drop q)) := hide (by
          rw [HCut.out, step_skip hlt HSk.out hps hql HC.out hq h10])
        have hpi : (pos : Int) < (past : Int) := by omega
        clear HCut HC h10
        go_wp2
        refine ⟨⟨q, ln, past, acc, rfl, rfl, rfl, hql, by omega, by omega, HSk.out.next (by omega), HE.out, HO.out, HI.out, HB.out, hsz2⟩, ?_⟩
        rw [it_pos HI.out, HP.out]
        omega
      · have hpi : ¬ (pos : Int) < (past : Int) := by omega
        have HE0 : Hid (tksT l = acc ++ (if l[pos] = 32 ∨ l[pos] = 9 then cutF 0 ln (l.drop (pos + 1)) else if Lib.hasPrefix (l.drop pos) [47, 47] = true then cutF (lnLen (l.drop pos) - 1) ln (l.drop (pos + 1)) else if (fstTk (l.drop pos)).kind = 0 then [{ fstTk (l.drop pos) with line := ln }] else { fstTk (l.drop pos) with line := ln } :: cutF ((fstTk (l.drop pos)).text.length - 1) ln (l.drop (pos + 1)))) := hide (by
          have h0 : l[pos] ≠ 10 := fun e => by
            rcases HC.out with ⟨_, h1, _⟩ | ⟨h1, _, h2⟩
            · rw [e] at h1; exact h10 h1
            · have := h2 pos hlt (Nat.le_refl _) hq
              rw [e] at this; exact absurd this (by decide)
          rw [HCut.out, drop_cons hlt, cutF, if_neg h0, if_neg (by omega)]
          try rfl)
        clear HCut
        by_cases hbl : c = 32 ∨ c = 9
        · have HQ : Hid (q = pos + 1 ∧ (l[pos] = 32 ∨ l[pos] = 9)) := hide (by
            rcases HC.out with ⟨_, h1, h2⟩ | ⟨h1, _⟩
            · exact ⟨h2, hbl.imp (fun h => UInt8.toNat_inj.1 (h1.symm.trans h)) (fun h => UInt8.toNat_inj.1 (h1.symm.trans h))⟩
            · omega)
          have HE : Hid (tksT l = acc ++ cutF (past - q) ln (l.drop q)) := hide (by
            rw [HE0.out, if_pos HQ.out.2, HQ.out.1, show past - (pos + 1) = 0 by omega])
          clear HE0 HC h10
          rcases hbl with rfl | rfl
          all_goals
            go_wp2
            refine ⟨⟨q, ln, past, acc, rfl, rfl, rfl, hql, by omega, by omega, HSk.out.next (by omega), HE.out, HO.out, HI.out, HB.out, hsz2⟩, ?_⟩
            rw [it_pos HI.out, HP.out]
            omega
        · have HE1 : Hid (tksT l = acc ++ (if Lib.hasPrefix (l.drop pos) [47, 47] = true then cutF (lnLen (l.drop pos) - 1) ln (l.drop (pos + 1)) else if (fstTk (l.drop pos)).kind = 0 then [{ fstTk (l.drop pos) with line := ln }] else { fstTk (l.drop pos) with line := ln } :: cutF ((fstTk (l.drop pos)).text.length - 1) ln (l.drop (pos + 1)))) := hide (by
            rw [HE0.out, if_neg (fun h => hbl (by
              rcases HC.out with ⟨_, h1, _⟩ | ⟨h1, _, h2⟩
              · exact h.imp (fun e => by rw [h1, e]; rfl) (fun e => by rw [h1, e]; rfl)
              · have h3 := h2 pos hlt (Nat.le_refl _) hq
                rcases h with e | e <;> (rw [e] at h3; exact absurd h3 (by decide))))])
          have h32 : ((c : Int) == 32) = false := by simp; omega
          have h9 : ((c : Int) == 9) = false := by simp; omega
          have e1 := ext_mk l pos l.length
          rw [List.take_length] at e1
          have hHP := Tryz.hasPre (l.drop pos) [47, 47] W
          clear HE0 hbl
          cases hcm : Lib.hasPrefix (l.drop pos) [47, 47] with
          | true =>
            rw [hcm] at hHP
            have HH := hide hHP
            have HQ : Hid (q = pos + 1) := hide (by
              rcases HC.out with ⟨_, _, h2⟩ | ⟨_, _, h2⟩
              · exact h2
              · have h3 := h2 pos hlt (Nat.le_refl _) hq
                rw [drop_cons hlt] at hcm
                simp only [Lib.hasPrefix, List.isPrefixOf, Bool.and_eq_true, beq_iff_eq] at hcm
                rw [← hcm.1] at h3
                exact absurd h3 (by decide))
            have hnl := lnLen_le (l.drop pos)
            simp only [List.length_drop] at hnl
            have HSk2 : Hid (Sk l q (pos + lnLen (l.drop pos))) := hide ⟨by omega, .inr fun h => by
              have := lnLen_end (l.drop pos) (by simp; omega)
              simpa using this⟩
            have HE : Hid (tksT l = acc ++ cutF (pos + lnLen (l.drop pos) - q) ln (l.drop q)) := hide (by
              rw [HE1.out, if_pos hcm, HQ.out, show pos + lnLen (l.drop pos) - (pos + 1) = lnLen (l.drop pos) - 1 by omega])
            have HLL := hide (lineLength_any W (l.drop pos))
            clear HE1 HC h10 hHP hcm
            generalize lnLen (l.drop pos) = nl at *
            go_wp2_with fail
            refine HH.out.mono ?_
            rintro e w1 ⟨rfl, rfl⟩
            go_wp2_with fail
            refine HLL.out.mono ?_
            rintro e w2 ⟨rfl, rfl⟩
            go_wp2
            refine ⟨⟨q, ln, pos + nl, acc, rfl, rfl, by simp, hql, by omega, by omega, HSk2.out, HE.out, HO.out, HI.out, HB.out, hsz2⟩, ?_⟩
            rw [it_pos HI.out, HP.out]
            omega
          | false =>
            rw [hcm] at hHP
            have HH := hide hHP
            have HE2 : Hid (tksT l = acc ++ (if (fstTk (l.drop pos)).kind = 0 then [{ fstTk (l.drop pos) with line := ln }] else { fstTk (l.drop pos) with line := ln } :: cutF ((fstTk (l.drop pos)).text.length - 1) ln (l.drop (pos + 1)))) := hide (by rw [HE1.out, if_neg (by rw [hcm]; simp)])
            have hdn : l.drop pos ≠ [] := List.ne_nil_of_length_pos (by simp; omega)
            have HF := hide (firstToken_any W (l.drop pos) hdn (by simp; omega) (HG.out.below HB.out))
            have HOk := hide (fun h => fst_ok (s := l.drop pos) hdn h)
            clear HE1 h10 hHP hcm
            generalize fstTk (l.drop pos) = t at *
            obtain ⟨tk, tx, tv, tl⟩ := t
            simp only [tkL] at HF
            go_wp2_with fail
            refine HH.out.mono ?_
            rintro e w1 ⟨rfl, rfl⟩
            go_wp2_with fail
            refine HF.out.mono ?_
            rintro e w2 ⟨rfl, hb2⟩
            have HO2 := hide (own_keep HO.out hb2)
            have HB2 := hide (HB.out.trans (hb2.mono (by omega)))
            have HI2 := hide (it_kept HI.out hb2)
            have hs2 := Nat.le_trans hsz2 hb2.size
            clear hb2 HO HB HI HF HH nx
            go_upto_region 16 with fail
            have hK : Blk (w2.alloc (.cells #[.int .i64 (tk : Nat), .string ⟨tx.toArray⟩, .int .u32 (tv : Nat), .int .i64 (ln : Nat)] 115)) w2.heap.size 115 (tkL ⟨tk, tx, tv, ln⟩) := ⟨heap_alloc_new _ _⟩
            have hbA := bel1 w2 (.cells #[.int .i64 (tk : Nat), .string ⟨tx.toArray⟩, .int .u32 (tv : Nat), .int .i64 (ln : Nat)] 115)
            have HO3 := hide (own_keep HO2.out hbA)
            have HB3 := hide (HB2.out.trans (hbA.mono (by omega)))
            have HI3 := hide (it_kept HI2.out hbA)
            have hs3 := Nat.le_trans hs2 hbA.size
            have c0 := hK.get (j := 0) rfl
            have c1 := hK.get (j := 1) rfl
            have c2 := hK.get (j := 2) rfl
            have c3 := hK.get (j := 3) rfl
            have HK := hide hK
            have HJ : Hid (∀ j, (Value.slice au acc.length cu).ownBlock = some j → j < w2.heap.size) := hide (fun j hj => (HO2.out.lt j hj).2)
            clear hbA HO2 HB2 HI2 hK
            generalize w2.alloc (.cells #[.int .i64 (tk : Nat), .string ⟨tx.toArray⟩, .int .u32 (tv : Nat), .int .i64 (ln : Nat)] 115) = W3 at *
            generalize w2.heap.size = g at *
            clear hs2
            have hgl := HK.out.lt
            go_upto_region 17 with (at_builtin; refine wpList_append_own _ rfl _ _ 72 rfl (w.heap.size + 1) 115 i9 (.agg (tkL tk0).toArray) 4 40 Tryz.underlying72 hi hz hsz9 hb9 rfl (by decide) _ _ _ rfl (HO3.out.alloc _) ⟨_, 0, none⟩ 1 1 (tkL ⟨tk, tx, tv, ln⟩) rfl rfl (cells_new _ _ _) (tkL_one _) (by unfold maxLen; omega) (by omega) (by simp; omega) ?_; intro v4 w4 ho4 hg4 _; obtain ⟨a4, c4, rfl⟩ := own_shape ho4)
            have HBx : Hid (Below (w.heap.size + 1) W3 w4) := hide (((Below.refl _ W3).alloc hs3 _).grown hg4 (by simp; omega) (fun j hj => (HO3.out.lt j hj).1))
            have HO4 : Hid (w4.ownsRow (w.heap.size + 1) 115 4 (.slice a4 (acc.length + 1) c4) (acc ++ [(⟨tk, tx, tv, ln⟩ : Tk)]).length ((acc ++ [(⟨tk, tx, tv, ln⟩ : Tk)]).flatMap tkL)) := hide (by simpa using ho4)
            have HI4 := hide (it_under HI3.out HBx.out (Nat.lt_succ_self _))
            have HB4 := hide (HB3.out.trans (HBx.out.mono (Nat.le_succ _)))
            have hs4 := Nat.le_trans hs3 HBx.out.size
            have hK4 : Blk w4 g 115 (tkL ⟨tk, tx, tv, ln⟩) := HK.out.keep ((hg4.block g (by simp; omega) (fun e => by have := HJ.out g e.symm; omega)).trans (Lib.alloc_old W3 _ g hgl))
            have d0 := hK4.get (j := 0) rfl
            have d1 := hK4.get (j := 1) rfl
            simp only [] at d0 d1
            clear ho4 hg4 HO3 HB3 HI3 HBx HK hK4 HJ c0 c1 c2 c3
            by_cases hk0 : tk = 0
            · subst hk0
              have HE : Hid (tksT l = acc ++ [⟨0, tx, tv, ln⟩]) := hide (by rw [HE2.out]; rfl)
              clear HE2 HOk HC
              go_wp2
              (try rw [Exit.noGoto_ret])
              go_ret
              exact ⟨_, rfl, by rw [HE.out]; exact HO4.out, HB4.out⟩
            · have hkb : ((tk : Int) == 0) = false := by simp; omega
              have HE : Hid (tksT l = acc ++ [(⟨tk, tx, tv, ln⟩ : Tk)] ++ cutF (tx.length - 1) ln (l.drop (pos + 1))) := hide (by rw [HE2.out, if_neg hk0]; simp)
              obtain ⟨n, f1, f2, f3, f4, f5, _⟩ := HOk.out hk0
              simp only [List.length_drop] at f3 f4
              have hxl : tx.length = n := by rw [f1]; simp; omega
              have HQ : Hid (q = pos + 1) := hide (by
                rcases HC.out with ⟨_, _, h2⟩ | ⟨_, _, h2⟩
                · exact h2
                · have h3 := h2 pos hlt (Nat.le_refl _) hq
                  have h4 := (f4 0 (by omega) (by omega)).1
                  simp only [List.getElem_drop, Nat.add_zero] at h4
                  omega)
              have HSk2 : Hid (Sk l q (pos + tx.length)) := hide ⟨by omega, .inl fun j hj h1 h2 => by
                have h4 := (f4 (j - pos) (by omega) (by omega)).1
                simp only [List.getElem_drop] at h4
                have e : pos + (j - pos) = j := by omega
                simpa only [e] using h4⟩
              have HE3 : Hid (tksT l = acc ++ [(⟨tk, tx, tv, ln⟩ : Tk)] ++ cutF (pos + tx.length - q) ln (l.drop q)) := hide (by
                rw [HE.out, HQ.out, show pos + tx.length - (pos + 1) = tx.length - 1 by omega])
              have hxl2 : tx.length ≤ 16384 := by omega
              clear HE2 HOk HC HE hk0 f1 f2 f3 f4 f5 hxl
              generalize htt : acc ++ [(⟨tk, tx, tv, ln⟩ : Tk)] = acc2 at *
              have hl2 : acc2.length = acc.length + 1 := by rw [← htt]; simp
              clear htt
              rw [hl2] at HO4
              go_wp2
              refine ⟨⟨q, ln, pos + tx.length, acc2, rfl, rfl, by simp, hql, by omega, by have := HQ.out; omega, HSk2.out, HE3.out, by rw [hl2]; exact HO4.out, HI4.out, HB4.out, hs4⟩, ?_⟩
              rw [it_pos HI4.out, HP.out]
              omega
  · have nx := it_stop (P := Tryz.prog) hI hlt
    obtain rfl : pos = l.length := by omega
    have HB := hide hB
    have HO := hide hO
    have HE : Hid (tksT l = acc ++ [(⟨1, [], 0, ln⟩ : Tk)]) := hide (by rw [hcut, List.drop_length]; rfl)
    clear hI hB hO hcut hsk
    go_wp2_with (at_builtin; refine wpList_append_own _ rfl _ _ 72 rfl (w.heap.size + 1) 115 i9 (.agg (tkL tk0).toArray) 4 40 Tryz.underlying72 hi hz hsz9 hb9 rfl (by decide) _ _ _ rfl (HO.out.alloc _) ⟨_, 0, none⟩ 1 1 (tkL ⟨1, [], 0, ln⟩) rfl rfl (cells_new _ _ _) (tkL_one _) (by unfold maxLen; omega) (by omega) (by simp; omega) ?_; intro v4 w4 ho4 hg4 _; obtain ⟨a4, c4, rfl⟩ := own_shape ho4)
    have HBx : Hid (Below (w.heap.size + 1) wr w4) := hide (((Below.refl _ wr).alloc hsz _).grown hg4 (by simp; omega) (fun j hj => (HO.out.lt j hj).1))
    have HO4 : Hid (w4.ownsRow (w.heap.size + 1) 115 4 (.slice a4 (acc.length + 1) c4) (tksT l).length ((tksT l).flatMap tkL)) := hide (by rw [HE.out]; simpa using ho4)
    have HB4 := hide (HB.out.trans (HBx.out.mono (Nat.le_succ _)))
    clear ho4 hg4 HO HB HBx HE
    go_wp2
    (try rw [Exit.noGoto_ret])
    go_ret
    exact ⟨_, rfl, HO4.out, HB4.out⟩
end
end Go.Proofs.YtiafodeabdhcoaaGreatDoor
