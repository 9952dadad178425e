import Derived.Test.YtbfagiofhakjnaaDoorMA09
import Derived.Test.YtbfagiofhakjnaaDoorMA10
import Derived.Test.YtbfagiofhakjnaaDoorMA11
namespace Go.Proofs.YtbfagiofhakjnaaDoor
open Go.RowKit
theorem take_no {s : Tx} {i : Nat} {ms : Tx} (h : ∀ j (hj : j < s.length), j < i → ms.contains s[j] = false) : ∀ x ∈ s.take i, ms.contains x = false := by
  intro x hx
  obtain ⟨k, hk, rfl⟩ := List.getElem_of_mem hx
  simp only [List.length_take] at hk
  have := h k (by omega) (by omega)
  simpa using this
theorem cutd_at {s : Tx} {i : Nat} {ms : Tx} (hi : i < s.length) (h : ∀ j (hj : j < s.length), j < i → ms.contains s[j] = false) (hc : ms.contains s[i] = true) : cutT ms s = some (s.take i, s.drop (i + 1)) := by
  have e : s = s.take i ++ s[i] :: s.drop (i + 1) := by rw [← List.drop_eq_getElem_cons hi, List.take_append_drop]
  have := cut_mark ms s[i] (s.drop (i + 1)) hc (s.take i) (take_no h)
  rw [← e] at this
  exact this
theorem cut_no {s : Tx} {ms : Tx} (h : ∀ j (hj : j < s.length), ms.contains s[j] = false) : cutT ms s = none :=
  cut_free ms s fun x hx => by obtain ⟨k, hk, rfl⟩ := List.getElem_of_mem hx; exact h k hk
/-- the first place of a sign, or -1 -/
def fndI (s : Tx) (c : UInt8) : Int := match cutT [c] s with
  | none => -1
  | some p => (p.1.length : Int)
section
variable (w : World)
set_option maxRecDepth 100000 in
theorem find_any (s : Tx) (c : UInt8) (hl : s.length ≤ 16384) : Calls Tryd.prog 18 #[.string ⟨s.toArray⟩, .int .u8 (c.toNat : Nat)] w fun e w' => e = .returned (.int .i64 (fndI s c)) ∧ w' = w := by
  go_enter Tryd.func18, Tryd.ntmps18
  go_upto_region 2 with fail
  go_loopw [5] (fun iv wr => ∃ i : Nat, iv = .int .i64 (i : Int) ∧ i ≤ s.length ∧ Hid (∀ j (hj : j < s.length), j < i → [c].contains s[j] = false) ∧ wr = w) (fun iv _ => s.length - (intOf iv).toNat)
  case atStart => exact ⟨0, rfl, by omega, hide (fun j _ h => by omega), rfl⟩
  case round =>
    obtain ⟨i, rfl, hi, HN, rfl⟩ := hrel
    by_cases hlt : i < s.length
    · have hltI : (i : Int) < (s.length : Int) := by omega
      obtain ⟨d, hd⟩ : ∃ d, s[i] = d := ⟨_, rfl⟩
      have hg : (⟨s.toArray⟩ : ByteArray)[i]'hlt = d := hd
      by_cases hc : d = c
      · have hb : ((d.toNat : Int) == (c.toNat : Int)) = true := by rw [beq_iff_eq, hc]
        have HV : Hid (fndI s c = (i : Int)) := hide (by
          unfold fndI
          rw [cutd_at hlt HN.out (by rw [hd, hc]; simp)]
          simp only [List.length_take]
          omega)
        clear hc HN
        go_wp2
        (try rw [Exit.noGoto_ret])
        go_ret
        exact ⟨by rw [HV.out]; rfl, rfl⟩
      · have hb : ((d.toNat : Int) == (c.toNat : Int)) = false := by
          rw [beq_eq_false_iff_ne]
          intro e
          exact hc (UInt8.toNat_inj.1 (by omega))
        have HN2 : Hid (∀ j (hj : j < s.length), j < i + 1 → [c].contains s[j] = false) := hide (fun j hj h => by
          by_cases e : j = i
          · subst e
            rw [hd]
            simpa using hc
          · exact HN.out j hj (by omega))
        clear hc HN
        go_wp2
        refine ⟨⟨i + 1, by simp, by omega, HN2, trivial⟩, ?_⟩
        simp [intOf]
        omega
    · have hltI : ¬ (i : Int) < (s.length : Int) := by omega
      have HV : Hid (fndI s c = -1) := hide (by unfold fndI; rw [cut_no (fun j hj => HN.out j hj (by omega))])
      clear HN
      go_wp2
      go_ret
      exact ⟨by rw [HV.out]; rfl, rfl⟩
theorem trim_eq {s : Tx} {k m : Nat} (h1 : ∀ j (hj : j < s.length), j < k → ([32, 9] : Tx).contains s[j] = true) (hkm : k + m ≤ s.length) (h2 : ∀ j (hj : j < s.length), k + m ≤ j → ([32, 9] : Tx).contains s[j] = true)
    (h3 : ∀ (hj : k + m - 1 < s.length), 0 < m → ([32, 9] : Tx).contains s[k + m - 1] = false) (h4 : ∀ (hj : k < s.length), ([32, 9] : Tx).contains s[k] = false) : (s.drop k).take m = trimT s := by
  unfold trimT Lib.trimS
  by_cases hm : m = 0
  · subst hm
    have e : Lib.trimRightS s [32, 9] = s.take 0 := Lib.trimRightS_take s [32, 9] 0 (by omega) (fun j b hj hb => by
      obtain ⟨hj2, rfl⟩ := List.getElem?_eq_some_iff.1 hb
      by_cases hjk : j < k
      · exact h1 j hj2 hjk
      · exact h2 j hj2 (by omega)) (fun b h _ => by omega)
    rw [e]
    simp [Lib.trimLeftS]
  · have e : Lib.trimRightS s [32, 9] = s.take (k + m) := Lib.trimRightS_take s [32, 9] (k + m) hkm (fun j b hj hb => by
      obtain ⟨hj2, rfl⟩ := List.getElem?_eq_some_iff.1 hb
      exact h2 j hj2 hj) (fun b h hb => by
      obtain ⟨hj2, rfl⟩ := List.getElem?_eq_some_iff.1 hb
      exact h3 hj2 (by omega))
    rw [e, Lib.trimLeftS_drop (s.take (k + m)) [32, 9] k (by simp; omega) (fun j b hj hb => by
      rw [List.getElem?_take] at hb
      split at hb
      · obtain ⟨hj2, rfl⟩ := List.getElem?_eq_some_iff.1 hb
        exact h1 j hj2 hj
      · cases hb) (fun b hb => by
      rw [List.getElem?_take] at hb
      split at hb
      · obtain ⟨hj2, rfl⟩ := List.getElem?_eq_some_iff.1 hb
        exact h4 hj2
      · cases hb), List.drop_take]
    congr 1
    omega
theorem u8_eq (c : UInt8) (n : Nat) (hn : n < 256) : (c == UInt8.ofNat n) = ((c.toNat : Int) == (n : Int)) := by
  rw [Bool.eq_iff_iff, beq_iff_eq, beq_iff_eq, ← UInt8.toNat_inj, UInt8.toNat_ofNat']
  omega
theorem bl_or (c : UInt8) : ([32, 9] : Tx).contains c = ((c.toNat : Int) == 32 || (c.toNat : Int) == 9) := by
  have a := u8_eq c 32 (by decide)
  have b := u8_eq c 9 (by decide)
  simp only [Int.cast_ofNat_Int] at a b
  rw [← a, ← b, Bool.eq_iff_iff]
  simp
set_option maxRecDepth 100000 in
set_option maxHeartbeats 1000000 in
theorem trimmed_any (s : Tx) (hl : s.length ≤ 16384) : Calls Tryd.prog 19 #[.string ⟨s.toArray⟩] w fun e w' => e = .returned (.string ⟨(trimT s).toArray⟩) ∧ w' = w := by
  go_enter Tryd.func19, Tryd.ntmps19
  go_upto_region 1 with fail
  go_loopw [0] (fun sv wr => ∃ k : Nat, sv = .string ⟨(s.drop k).toArray⟩ ∧ k ≤ s.length ∧ Hid (∀ j (hj : j < s.length), j < k → ([32, 9] : Tx).contains s[j] = true) ∧ wr = w) (fun sv _ => match sv with | .string b => b.size | _ => 0)
  case atStart => exact ⟨0, rfl, by omega, hide (fun j _ h => by omega), rfl⟩
  case round =>
    obtain ⟨k, rfl, hk, HN, rfl⟩ := hrel
    by_cases hlt : k < s.length
    · obtain ⟨d, hd⟩ : ∃ d, s[k] = d := ⟨_, rfl⟩
      obtain ⟨r, hr⟩ : ∃ r, s.drop (k + 1) = r := ⟨_, rfl⟩
      have hdr : s.drop k = d :: r := by rw [List.drop_eq_getElem_cons hlt, hd, hr]
      have hrl : r.length ≤ 16384 := by rw [← hr, List.length_drop]; omega
      rw [hdr]
      have e1 : (⟨(d :: r).toArray⟩ : ByteArray).extract 1 (r.length + 1) = ⟨r.toArray⟩ := by have := ext_mk (d :: r) 1 (r.length + 1); rw [this]; simp
      have hg : (⟨(d :: r).toArray⟩ : ByteArray)[0]'(by simp [ByteArray.size]) = d := rfl
      have h0 : (0 : Int) < ((r.length + 1 : Nat) : Int) := by omega
      by_cases h32 : (d.toNat : Int) = 32
      · have hb : ((d.toNat : Int) == 32) = true := by rw [beq_iff_eq]; exact h32
        have HN2 : Hid (∀ j (hj : j < s.length), j < k + 1 → ([32, 9] : Tx).contains s[j] = true) := hide (fun j hj h => by
          by_cases e : j = k
          · subst e; rw [hd, bl_or, hb]; rfl
          · exact HN.out j hj (by omega))
        clear h32 HN hdr
        go_wp2
        refine ⟨⟨k + 1, by rw [hr], by omega, HN2, trivial⟩, ?_⟩
        show (⟨r.toArray⟩ : ByteArray).size < (⟨(d :: r).toArray⟩ : ByteArray).size
        simp [ByteArray.size]
      · have hb : ((d.toNat : Int) == 32) = false := by rw [beq_eq_false_iff_ne]; exact h32
        by_cases h9 : (d.toNat : Int) = 9
        · have hb9 : ((d.toNat : Int) == 9) = true := by rw [beq_iff_eq]; exact h9
          have HN2 : Hid (∀ j (hj : j < s.length), j < k + 1 → ([32, 9] : Tx).contains s[j] = true) := hide (fun j hj h => by
            by_cases e : j = k
            · subst e; rw [hd, bl_or, hb, hb9]; rfl
            · exact HN.out j hj (by omega))
          clear h32 h9 HN hdr
          go_wp2
          refine ⟨⟨k + 1, by rw [hr], by omega, HN2, trivial⟩, ?_⟩
          show (⟨r.toArray⟩ : ByteArray).size < (⟨(d :: r).toArray⟩ : ByteArray).size
          simp [ByteArray.size]
        · have hb9 : ((d.toNat : Int) == 9) = false := by rw [beq_eq_false_iff_ne]; exact h9
          have HS : Hid (∀ (hj : k < s.length), ([32, 9] : Tx).contains s[k] = false) := hide (fun hj => by rw [hd, bl_or, hb, hb9]; rfl)
          go_upto_region 3 with fail
          go_loopw [0] (fun sv wr' => ∃ m : Nat, sv = .string ⟨((s.drop k).take m).toArray⟩ ∧ k + m ≤ s.length ∧ Hid (∀ j (hj : j < s.length), k + m ≤ j → ([32, 9] : Tx).contains s[j] = true) ∧ wr' = wr) (fun sv _ => match sv with | .string b => b.size | _ => 0)
          case atStart => exact ⟨s.length - k, by rw [← hdr, List.take_of_length_le (by simp)], by omega, hide (fun j hj h => by omega), rfl⟩
          case round =>
            obtain ⟨m, rfl, hm, HM, rfl⟩ := hrel
            by_cases h0m : m = 0
            · subst h0m
              have HV : Hid ((s.drop k).take 0 = trimT s) := hide (trim_eq HN.out hm HM.out (fun _ h => by omega) HS.out)
              go_wp2
              go_ret
              exact ⟨by rw [← HV.out]; rfl, rfl⟩
            · obtain ⟨m', rfl⟩ : ∃ m', m = m' + 1 := ⟨m - 1, by omega⟩
              have hlt2 : k + m' < s.length := by omega
              obtain ⟨x, hx⟩ : ∃ x, s[k + m'] = x := ⟨_, rfl⟩
              obtain ⟨q, hq⟩ : ∃ q, (s.drop k).take m' = q := ⟨_, rfl⟩
              have hql : q.length = m' := by rw [← hq]; simp; omega
              have hqx : (s.drop k).take (m' + 1) = q ++ [x] := by
                rw [List.take_succ_eq_append_getElem (by simp; omega), hq]
                simp [hx]
              rw [hqx]
              have e2 : (⟨(q ++ [x]).toArray⟩ : ByteArray).extract 0 m' = ⟨q.toArray⟩ := by have := ext_mk (q ++ [x]) 0 m'; rw [this]; simp [← hql]
              have hsz2 : (⟨(q ++ [x]).toArray⟩ : ByteArray).size = m' + 1 := by simp [ByteArray.size, hql]
              have hg2 : (⟨(q ++ [x]).toArray⟩ : ByteArray)[m']'(by rw [hsz2]; omega) = x := by
                show (q ++ [x])[m']'(by simp [hql]) = x
                simp [← hql]
              have qI : (m' : Int) < ((m' + 1 : Nat) : Int) := by omega
              have q0 : (0 : Int) < ((m' + 1 : Nat) : Int) := by omega
              by_cases x32 : (x.toNat : Int) = 32
              · have xb : ((x.toNat : Int) == 32) = true := by rw [beq_iff_eq]; exact x32
                have HM2 : Hid (∀ j (hj : j < s.length), k + m' ≤ j → ([32, 9] : Tx).contains s[j] = true) := hide (fun j hj h => by
                  by_cases e : j = k + m'
                  · subst e; rw [hx, bl_or, xb]; rfl
                  · exact HM.out j hj (by omega))
                clear x32 HM
                go_wp2
                refine ⟨⟨m', by rw [hq], by omega, HM2, trivial⟩, ?_⟩
                show (⟨q.toArray⟩ : ByteArray).size < (⟨(q ++ [x]).toArray⟩ : ByteArray).size
                simp [ByteArray.size]
              · have xb : ((x.toNat : Int) == 32) = false := by rw [beq_eq_false_iff_ne]; exact x32
                by_cases x9 : (x.toNat : Int) = 9
                · have xb9 : ((x.toNat : Int) == 9) = true := by rw [beq_iff_eq]; exact x9
                  have HM2 : Hid (∀ j (hj : j < s.length), k + m' ≤ j → ([32, 9] : Tx).contains s[j] = true) := hide (fun j hj h => by
                    by_cases e : j = k + m'
                    · subst e; rw [hx, bl_or, xb, xb9]; rfl
                    · exact HM.out j hj (by omega))
                  clear x32 x9 HM
                  go_wp2
                  refine ⟨⟨m', by rw [hq], by omega, HM2, trivial⟩, ?_⟩
                  show (⟨q.toArray⟩ : ByteArray).size < (⟨(q ++ [x]).toArray⟩ : ByteArray).size
                  simp [ByteArray.size]
                · have xb9 : ((x.toNat : Int) == 9) = false := by rw [beq_eq_false_iff_ne]; exact x9
                  have HV : Hid ((s.drop k).take (m' + 1) = trimT s) := hide (trim_eq HN.out hm HM.out (fun _ _ => by simp only [show k + (m' + 1) - 1 = k + m' by omega]; rw [hx, bl_or, xb, xb9]; rfl) HS.out)
                  rw [hqx] at HV
                  clear x32 x9
                  go_wp2
                  go_ret
                  exact ⟨by rw [← HV.out]; rfl, rfl⟩
    · have hdl : s.drop k = [] := List.drop_eq_nil_iff.2 (by omega)
      rw [hdl]
      have HS : Hid (∀ (hj : k < s.length), ([32, 9] : Tx).contains s[k] = false) := hide (fun hj => by omega)
      go_upto_region 3 with fail
      go_loopw [0] (fun sv wr' => ∃ m : Nat, sv = .string ⟨((s.drop k).take m).toArray⟩ ∧ k + m ≤ s.length ∧ Hid (∀ j (hj : j < s.length), k + m ≤ j → ([32, 9] : Tx).contains s[j] = true) ∧ wr' = wr) (fun sv _ => match sv with | .string b => b.size | _ => 0)
      case atStart => exact ⟨s.length - k, by rw [hdl, List.take_nil], by omega, hide (fun j hj h => by omega), rfl⟩
      case round =>
        obtain ⟨m, rfl, hm, HM, rfl⟩ := hrel
        by_cases h0m : m = 0
        · subst h0m
          have HV : Hid ((s.drop k).take 0 = trimT s) := hide (trim_eq HN.out hm HM.out (fun _ h => by omega) HS.out)
          go_wp2
          go_ret
          exact ⟨by rw [← HV.out]; rfl, rfl⟩
        · obtain ⟨m', rfl⟩ : ∃ m', m = m' + 1 := ⟨m - 1, by omega⟩
          have hlt2 : k + m' < s.length := by omega
          obtain ⟨x, hx⟩ : ∃ x, s[k + m'] = x := ⟨_, rfl⟩
          obtain ⟨q, hq⟩ : ∃ q, (s.drop k).take m' = q := ⟨_, rfl⟩
          have hql : q.length = m' := by rw [← hq]; simp; omega
          have hqx : (s.drop k).take (m' + 1) = q ++ [x] := by
            rw [List.take_succ_eq_append_getElem (by simp; omega), hq]
            simp [hx]
          rw [hqx]
          have e2 : (⟨(q ++ [x]).toArray⟩ : ByteArray).extract 0 m' = ⟨q.toArray⟩ := by have := ext_mk (q ++ [x]) 0 m'; rw [this]; simp [← hql]
          have hsz2 : (⟨(q ++ [x]).toArray⟩ : ByteArray).size = m' + 1 := by simp [ByteArray.size, hql]
          have hg2 : (⟨(q ++ [x]).toArray⟩ : ByteArray)[m']'(by rw [hsz2]; omega) = x := by
            show (q ++ [x])[m']'(by simp [hql]) = x
            simp [← hql]
          have qI : (m' : Int) < ((m' + 1 : Nat) : Int) := by omega
          have q0 : (0 : Int) < ((m' + 1 : Nat) : Int) := by omega
          by_cases x32 : (x.toNat : Int) = 32
          · have xb : ((x.toNat : Int) == 32) = true := by rw [beq_iff_eq]; exact x32
            have HM2 : Hid (∀ j (hj : j < s.length), k + m' ≤ j → ([32, 9] : Tx).contains s[j] = true) := hide (fun j hj h => by
              by_cases e : j = k + m'
              · subst e; rw [hx, bl_or, xb]; rfl
              · exact HM.out j hj (by omega))
            clear x32 HM
            go_wp2
            refine ⟨⟨m', by rw [hq], by omega, HM2, trivial⟩, ?_⟩
            show (⟨q.toArray⟩ : ByteArray).size < (⟨(q ++ [x]).toArray⟩ : ByteArray).size
            simp [ByteArray.size]
          · have xb : ((x.toNat : Int) == 32) = false := by rw [beq_eq_false_iff_ne]; exact x32
            by_cases x9 : (x.toNat : Int) = 9
            · have xb9 : ((x.toNat : Int) == 9) = true := by rw [beq_iff_eq]; exact x9
              have HM2 : Hid (∀ j (hj : j < s.length), k + m' ≤ j → ([32, 9] : Tx).contains s[j] = true) := hide (fun j hj h => by
                by_cases e : j = k + m'
                · subst e; rw [hx, bl_or, xb, xb9]; rfl
                · exact HM.out j hj (by omega))
              clear x32 x9 HM
              go_wp2
              refine ⟨⟨m', by rw [hq], by omega, HM2, trivial⟩, ?_⟩
              show (⟨q.toArray⟩ : ByteArray).size < (⟨(q ++ [x]).toArray⟩ : ByteArray).size
              simp [ByteArray.size]
            · have xb9 : ((x.toNat : Int) == 9) = false := by rw [beq_eq_false_iff_ne]; exact x9
              have HV : Hid ((s.drop k).take (m' + 1) = trimT s) := hide (trim_eq HN.out hm HM.out (fun _ _ => by simp only [show k + (m' + 1) - 1 = k + m' by omega]; rw [hx, bl_or, xb, xb9]; rfl) HS.out)
              rw [hqx] at HV
              clear x32 x9
              go_wp2
              go_ret
              exact ⟨by rw [← HV.out]; rfl, rfl⟩
end
end Go.Proofs.YtbfagiofhakjnaaDoor

namespace Go.Proofs.YtbfagiofhakjnaaDoor
open Go.RowKit
section
variable (w : World)
theorem classes (c : Nat) : (97 ≤ c ∧ c ≤ 122) ∨ (122 < c) ∨ (65 ≤ c ∧ c ≤ 90) ∨ (c = 95) ∨ (90 < c ∧ c < 97 ∧ c ≠ 95) ∨ (48 ≤ c ∧ c ≤ 57) ∨ (57 < c ∧ c < 65) ∨ (c < 48) := by omega
set_option maxRecDepth 100000 in
set_option maxHeartbeats 1000000 in
theorem isLabelD_any (s : Tx) (hl : s.length ≤ 16384) : Calls Tryd.prog 20 #[.string ⟨s.toArray⟩] w fun e w' => e = .returned (.bool (isLbl s)) ∧ w' = w := by
  go_enter Tryd.func20, Tryd.ntmps20
  go_upto_region 2 with fail
  go_loopw [3] (fun iv wr => ∃ i : Nat, iv = .int .i64 (i : Int) ∧ i ≤ s.length ∧ Hid (∀ j (hj : j < s.length), j < i → okAt j s[j].toNat = true) ∧ wr = w) (fun iv _ => s.length - (intOf iv).toNat)
  case atStart => exact ⟨0, rfl, by omega, hide (fun j _ h => by omega), rfl⟩
  case round =>
    obtain ⟨i, rfl, hi, HN, rfl⟩ := hrel
    by_cases hlt : i < s.length
    · have hltI : (i : Int) < (s.length : Int) := by omega
      obtain ⟨d, hd⟩ : ∃ d, s[i] = d := ⟨_, rfl⟩
      have hg : (⟨s.toArray⟩ : ByteArray)[i]'hlt = d := hd
      obtain ⟨c, hcc⟩ : ∃ c, d.toNat = c := ⟨_, rfl⟩
      rcases classes c with h | h | h | h | h | h | h | h
      · have f0 : (97 : Int) ≤ (c : Int) := by omega
        have f1 : (c : Int) ≤ 122 := by omega
        have f2 : (65 : Int) ≤ (c : Int) := by omega
        have f3 : ¬ (c : Int) ≤ 90 := by omega
        have f4 : ((c : Int) == 95) = false := by rw [beq_eq_false_iff_ne]; omega
        have f5 : (48 : Int) ≤ (c : Int) := by omega
        have f6 : ¬ (c : Int) ≤ 57 := by omega
        have HN2 : Hid (∀ j (hj : j < s.length), j < i + 1 → okAt j s[j].toNat = true) := hide (fun j hj h => by
          by_cases e : j = i
          · subst e; rw [hd, hcc]; simp [okAt, letN, digN]; omega
          · exact HN.out j hj (by omega))
        clear h HN
        go_wp2
        refine ⟨⟨i + 1, by simp, by omega, HN2, trivial⟩, ?_⟩
        simp [intOf]
        omega
      · have f0 : (97 : Int) ≤ (c : Int) := by omega
        have f1 : ¬ (c : Int) ≤ 122 := by omega
        have f2 : (65 : Int) ≤ (c : Int) := by omega
        have f3 : ¬ (c : Int) ≤ 90 := by omega
        have f4 : ((c : Int) == 95) = false := by rw [beq_eq_false_iff_ne]; omega
        have f5 : (48 : Int) ≤ (c : Int) := by omega
        have f6 : ¬ (c : Int) ≤ 57 := by omega
        have HV : Hid (isLbl s = false) := hide (lbl_false hlt (by rw [hd, hcc]; simp [okAt, letN, digN]; omega))
        clear h HN
        go_wp2
        (try rw [Exit.noGoto_ret])
        go_ret
        exact ⟨by rw [HV.out]; rfl, rfl⟩
      · have f0 : ¬ (97 : Int) ≤ (c : Int) := by omega
        have f1 : (c : Int) ≤ 122 := by omega
        have f2 : (65 : Int) ≤ (c : Int) := by omega
        have f3 : (c : Int) ≤ 90 := by omega
        have f4 : ((c : Int) == 95) = false := by rw [beq_eq_false_iff_ne]; omega
        have f5 : (48 : Int) ≤ (c : Int) := by omega
        have f6 : ¬ (c : Int) ≤ 57 := by omega
        have HN2 : Hid (∀ j (hj : j < s.length), j < i + 1 → okAt j s[j].toNat = true) := hide (fun j hj h => by
          by_cases e : j = i
          · subst e; rw [hd, hcc]; simp [okAt, letN, digN]; omega
          · exact HN.out j hj (by omega))
        clear h HN
        go_wp2
        refine ⟨⟨i + 1, by simp, by omega, HN2, trivial⟩, ?_⟩
        simp [intOf]
        omega
      · have f0 : ¬ (97 : Int) ≤ (c : Int) := by omega
        have f1 : (c : Int) ≤ 122 := by omega
        have f2 : (65 : Int) ≤ (c : Int) := by omega
        have f3 : ¬ (c : Int) ≤ 90 := by omega
        have f4 : ((c : Int) == 95) = true := by rw [beq_iff_eq]; omega
        have f5 : (48 : Int) ≤ (c : Int) := by omega
        have f6 : ¬ (c : Int) ≤ 57 := by omega
        have HN2 : Hid (∀ j (hj : j < s.length), j < i + 1 → okAt j s[j].toNat = true) := hide (fun j hj h => by
          by_cases e : j = i
          · subst e; rw [hd, hcc]; simp [okAt, letN, digN]; omega
          · exact HN.out j hj (by omega))
        clear h HN
        go_wp2
        refine ⟨⟨i + 1, by simp, by omega, HN2, trivial⟩, ?_⟩
        simp [intOf]
        omega
      · have f0 : ¬ (97 : Int) ≤ (c : Int) := by omega
        have f1 : (c : Int) ≤ 122 := by omega
        have f2 : (65 : Int) ≤ (c : Int) := by omega
        have f3 : ¬ (c : Int) ≤ 90 := by omega
        have f4 : ((c : Int) == 95) = false := by rw [beq_eq_false_iff_ne]; omega
        have f5 : (48 : Int) ≤ (c : Int) := by omega
        have f6 : ¬ (c : Int) ≤ 57 := by omega
        have HV : Hid (isLbl s = false) := hide (lbl_false hlt (by rw [hd, hcc]; simp [okAt, letN, digN]; omega))
        clear h HN
        go_wp2
        (try rw [Exit.noGoto_ret])
        go_ret
        exact ⟨by rw [HV.out]; rfl, rfl⟩
      · have f0 : ¬ (97 : Int) ≤ (c : Int) := by omega
        have f1 : (c : Int) ≤ 122 := by omega
        have f2 : ¬ (65 : Int) ≤ (c : Int) := by omega
        have f3 : (c : Int) ≤ 90 := by omega
        have f4 : ((c : Int) == 95) = false := by rw [beq_eq_false_iff_ne]; omega
        have f5 : (48 : Int) ≤ (c : Int) := by omega
        have f6 : (c : Int) ≤ 57 := by omega
        by_cases hi0 : i = 0
        · have g0 : ((i : Int) == 0) = true := by rw [beq_iff_eq]; omega
          have HV : Hid (isLbl s = false) := hide (lbl_false hlt (by rw [hd, hcc]; simp [okAt, letN, digN]; omega))
          clear h HN hi0
          go_wp2
          (try rw [Exit.noGoto_ret])
          go_ret
          exact ⟨by rw [HV.out]; rfl, rfl⟩
        · have g0 : ((i : Int) == 0) = false := by rw [beq_eq_false_iff_ne]; omega
          have HN2 : Hid (∀ j (hj : j < s.length), j < i + 1 → okAt j s[j].toNat = true) := hide (fun j hj h => by
            by_cases e : j = i
            · subst e; rw [hd, hcc]; simp [okAt, letN, digN]; omega
            · exact HN.out j hj (by omega))
          clear h HN hi0
          go_wp2
          refine ⟨⟨i + 1, by simp, by omega, HN2, trivial⟩, ?_⟩
          simp [intOf]
          omega
      · have f0 : ¬ (97 : Int) ≤ (c : Int) := by omega
        have f1 : (c : Int) ≤ 122 := by omega
        have f2 : ¬ (65 : Int) ≤ (c : Int) := by omega
        have f3 : (c : Int) ≤ 90 := by omega
        have f4 : ((c : Int) == 95) = false := by rw [beq_eq_false_iff_ne]; omega
        have f5 : (48 : Int) ≤ (c : Int) := by omega
        have f6 : ¬ (c : Int) ≤ 57 := by omega
        have HV : Hid (isLbl s = false) := hide (lbl_false hlt (by rw [hd, hcc]; simp [okAt, letN, digN]; omega))
        clear h HN
        go_wp2
        (try rw [Exit.noGoto_ret])
        go_ret
        exact ⟨by rw [HV.out]; rfl, rfl⟩
      · have f0 : ¬ (97 : Int) ≤ (c : Int) := by omega
        have f1 : (c : Int) ≤ 122 := by omega
        have f2 : ¬ (65 : Int) ≤ (c : Int) := by omega
        have f3 : (c : Int) ≤ 90 := by omega
        have f4 : ((c : Int) == 95) = false := by rw [beq_eq_false_iff_ne]; omega
        have f5 : ¬ (48 : Int) ≤ (c : Int) := by omega
        have f6 : (c : Int) ≤ 57 := by omega
        have HV : Hid (isLbl s = false) := hide (lbl_false hlt (by rw [hd, hcc]; simp [okAt, letN, digN]; omega))
        clear h HN
        go_wp2
        (try rw [Exit.noGoto_ret])
        go_ret
        exact ⟨by rw [HV.out]; rfl, rfl⟩
    · have hltI : ¬ (i : Int) < (s.length : Int) := by omega
      by_cases hs : s = []
      · subst hs
        clear HN
        go_wp2
        go_ret
        exact ⟨rfl, rfl⟩
      · have hne : List.isEmpty s = false := by simpa using hs
        have HV : Hid (isLbl s = true) := hide (lbl_true hs (fun j hj => HN.out j hj (by omega)))
        clear HN hs
        go_wp2
        go_ret
        exact ⟨by rw [HV.out]; rfl, rfl⟩
/-- is it a register -/
def isReg (s : Tx) : Bool := (regT s).isSome
set_option maxRecDepth 100000 in
theorem isRegD_any (s : Tx) (hl : s.length ≤ 16384) : Calls Tryd.prog 37 #[.string ⟨s.toArray⟩] w fun e w' => e = .returned (.bool (isReg s)) ∧ w' = w := by
  match s, hl with
  | [], _ =>
    go_enter Tryd.func37, Tryd.ntmps37
    go_wp2
    go_ret
    exact ⟨rfl, rfl⟩
  | [a], _ =>
    go_enter Tryd.func37, Tryd.ntmps37
    go_wp2
    go_ret
    exact ⟨rfl, rfl⟩
  | a :: b :: c :: r, hl =>
    have hn : (((r.length + 1 + 1 + 1 : Nat) : Int) == 2) = false := by rw [beq_eq_false_iff_ne]; omega
    go_enter Tryd.func37, Tryd.ntmps37
    go_wp2
    go_ret
    exact ⟨rfl, rfl⟩
  | [a, b], _ =>
    have hg0 : (⟨[a, b].toArray⟩ : ByteArray)[0]'(by simp [ByteArray.size]) = a := rfl
    have hg1 : (⟨[a, b].toArray⟩ : ByteArray)[1]'(by simp [ByteArray.size]) = b := rfl
    by_cases h1 : a.toNat = 114
    · have f1 : ((a.toNat : Int) == 114) = true := by rw [beq_iff_eq]; omega
      by_cases h2 : 48 ≤ b.toNat
      · have f2 : (48 : Int) ≤ (b.toNat : Int) := by omega
        by_cases h3 : b.toNat ≤ 55
        · have f3 : (b.toNat : Int) ≤ 55 := by omega
          have HV : Hid (isReg [a, b] = true) := hide (by unfold isReg; show (if a.toNat = 114 ∧ 48 ≤ b.toNat ∧ b.toNat < 56 then some (b.toNat - 48) else none).isSome = _; rw [if_pos ⟨h1, h2, by omega⟩]; rfl)
          go_enter Tryd.func37, Tryd.ntmps37
          go_wp2
          go_ret
          exact ⟨by rw [HV.out]; rfl, rfl⟩
        · have f3 : ¬ (b.toNat : Int) ≤ 55 := by omega
          have HV : Hid (isReg [a, b] = false) := hide (by unfold isReg; show (if a.toNat = 114 ∧ 48 ≤ b.toNat ∧ b.toNat < 56 then some (b.toNat - 48) else none).isSome = _; rw [if_neg (by omega)]; rfl)
          go_enter Tryd.func37, Tryd.ntmps37
          go_wp2
          go_ret
          exact ⟨by rw [HV.out]; rfl, rfl⟩
      · have f2 : ¬ (48 : Int) ≤ (b.toNat : Int) := by omega
        have HV : Hid (isReg [a, b] = false) := hide (by unfold isReg; show (if a.toNat = 114 ∧ 48 ≤ b.toNat ∧ b.toNat < 56 then some (b.toNat - 48) else none).isSome = _; rw [if_neg (by omega)]; rfl)
        go_enter Tryd.func37, Tryd.ntmps37
        go_wp2
        go_ret
        exact ⟨by rw [HV.out]; rfl, rfl⟩
    · have f1 : ((a.toNat : Int) == 114) = false := by rw [beq_eq_false_iff_ne]; omega
      have HV : Hid (isReg [a, b] = false) := hide (by unfold isReg; show (if a.toNat = 114 ∧ 48 ≤ b.toNat ∧ b.toNat < 56 then some (b.toNat - 48) else none).isSome = _; rw [if_neg (by omega)]; rfl)
      go_enter Tryd.func37, Tryd.ntmps37
      go_wp2
      go_ret
      exact ⟨by rw [HV.out]; rfl, rfl⟩
/-- the document's names lie as they are laid -/
def Nms (w : World) : Prop := ∀ n, n < 27 → w.cell? ⟨0, n, none⟩ = some (.string ⟨(nm n).toArray⟩)
theorem no_zero (s : Tx) : ∀ n, n < 1 → (n != 0 && nm n == s) = false := by
  intro n h
  have e : n = 0 := by omega
  subst e
  rfl
set_option maxRecDepth 100000 in
theorem opOf_any (s : Tx) (hN : Nms w) : Calls Tryd.prog 26 #[.string ⟨s.toArray⟩] w fun e w' => e = .returned (.int .i64 (opT s : Nat)) ∧ w' = w := by
  have HC := hide hN
  clear hN
  go_enter Tryd.func26, Tryd.ntmps26
  go_upto_region 2 with fail
  go_loopw [3] (fun iv wr => ∃ i : Nat, iv = .int .i64 (i : Int) ∧ 1 ≤ i ∧ i ≤ 27 ∧ Hid (∀ n, n < i → (n != 0 && nm n == s) = false) ∧ wr = w) (fun iv _ => 27 - (intOf iv).toNat)
  case atStart => exact ⟨1, rfl, by omega, by omega, hide (no_zero s), rfl⟩
  case round =>
    obtain ⟨i, rfl, h1, hi, HN, rfl⟩ := hrel
    by_cases hlt : i < 27
    · have hltI : (i : Int) ≤ 26 := by omega
      have hltJ : (i : Int) < 27 := by omega
      have c0 := HC.out i hlt
      cases hx : (nm i == s) with
      | true =>
        have HV : Hid (opT s = i) := hide (opT_at hlt HN.out (by rw [hx]; simp; omega))
        generalize nm i = nn at *
        clear HN
        go_wp2
        (try rw [Exit.noGoto_ret])
        go_ret
        exact ⟨by rw [HV.out]; rfl, rfl⟩
      | false =>
        have HN2 : Hid (∀ n, n < i + 1 → (n != 0 && nm n == s) = false) := hide (fun n hn => by
          by_cases e : n = i
          · subst e; rw [hx]; simp
          · exact HN.out n (by omega))
        generalize nm i = nn at *
        clear HN
        go_wp2
        refine ⟨⟨i + 1, by simp, by omega, by omega, HN2, trivial⟩, ?_⟩
        simp [intOf]
        omega
    · have hltI : ¬ (i : Int) ≤ 26 := by omega
      have HV : Hid (opT s = 0) := hide (opT_none (fun n hn => HN.out n (by omega)))
      clear HN
      go_wp2
      go_ret
      exact ⟨by rw [HV.out]; rfl, rfl⟩
end
end Go.Proofs.YtbfagiofhakjnaaDoor

namespace Go.Proofs.YtbfagiofhakjnaaDoor
open Go.RowKit
theorem fnd_hex (d : UInt8) : fndI [48, 49, 50, 51, 52, 53, 54, 55, 56, 57, 97, 98, 99, 100, 101, 102] d = if digV d < 16 then ((digV d : Nat) : Int) else -1 := by
  have h : ∀ n : Fin 256, fndI [48, 49, 50, 51, 52, 53, 54, 55, 56, 57, 97, 98, 99, 100, 101, 102] (UInt8.ofNat n.val) = if digV (UInt8.ofNat n.val) < 16 then ((digV (UInt8.ofNat n.val) : Nat) : Int) else -1 := by decide +kernel
  have := h ⟨d.toNat, d.toNat_lt⟩
  simpa using this
theorem shapes (t : Tx) : t = [] ∨ (∃ a, t = [a]) ∨ (∃ u, t = 48 :: 120 :: u) ∨ (∃ a b r, t = a :: b :: r ∧ a ≠ 48) ∨ (∃ b r, t = 48 :: b :: r ∧ b ≠ 120) := by
  match t with
  | [] => exact .inl rfl
  | [a] => exact .inr (.inl ⟨a, rfl⟩)
  | a :: b :: r =>
    by_cases h : a = 48
    · subst h
      by_cases h2 : b = 120
      · subst h2; exact .inr (.inr (.inl ⟨r, rfl⟩))
      · exact .inr (.inr (.inr (.inr ⟨b, r, rfl, h2⟩)))
    · exact .inr (.inr (.inr (.inl ⟨a, b, r, rfl, h⟩)))
theorem u8_ne {a : UInt8} {n : Nat} (hn : n < 256) (h : a ≠ UInt8.ofNat n) : ((a.toNat : Int) == (n : Int)) = false := by
  rw [← u8_eq a n hn, beq_eq_false_iff_ne]; exact h
theorem num_parts {s t u : Tx} {mn : Bool} {B M : Nat} (h1 : absT s = t) (h2 : digT t = u) (h3 : basT t = B) (h4 : mosT t = M) (h5 : minT s = mn) : numT s = if u.length = 0 ∨ M < u.length then none else (numF B 0 u).map fun n => if mn then -(n : Int) else (n : Int) := by
  unfold numT
  rw [h1, h2, h3, h4, h5]
theorem pre_no {t p : Tx} (h : Lib.hasPrefix t p = false) : Lib.trimPrefix t p = t := by unfold Lib.trimPrefix; rw [h]; rfl
section
variable (w : World)
set_option maxRecDepth 100000 in
set_option maxHeartbeats 4000000 in
theorem value_any (s : Tx) (hl : s.length ≤ 16384) : Calls Tryd.prog 23 #[.string ⟨s.toArray⟩] w fun e w' => e = .returned (.tuple #[.int .i64 ((numT s).getD 0), .bool (numT s).isSome]) ∧ w' = w := by
  by_cases hmi : ∃ t, s = 45 :: t
  · obtain ⟨t, rfl⟩ := hmi
    rcases shapes t with rfl | ⟨a, rfl⟩ | ⟨u, rfl⟩ | ⟨a, b, r, rfl, ha⟩ | ⟨b, r, rfl, hb⟩
    · have HV : Hid (numT ([45]) = none) := hide rfl
      go_enter Tryd.func23, Tryd.ntmps23
      go_wp2
      go_ret2
      exact ⟨by rw [HV.out]; rfl, rfl⟩
    · obtain ⟨u, hu⟩ : ∃ u : Tx, [a] = u := ⟨_, rfl⟩
      have hx : Lib.hasPrefix ([a]) [48, 120] = false := by show ((48 == a) && false) = false; simp
      have p2 : digT ([a]) = u := (pre_no hx).trans hu
      have p3 : basT ([a]) = 10 := by unfold basT hexT; rw [hx]; rfl
      have p4 : mosT ([a]) = 10 := by unfold mosT hexT; rw [hx]; rfl
      have p1 : absT ([45, a]) = [a] := by unfold absT Lib.trimPrefix Lib.hasPrefix; simp
      have p5 : minT ([45, a]) = true := by unfold minT Lib.hasPrefix; simp
      have HP := hide (num_parts p1 p2 p3 p4 p5)
      have HU := hide hu
      clear hu p1 p2 p3 p4 p5
      have e1 : (⟨([45, a] : Tx).toArray⟩ : ByteArray).extract 1 (2) = ⟨([a] : Tx).toArray⟩ := by rw [ext_mk]; simp
      have g0s : (⟨([45, a] : Tx).toArray⟩ : ByteArray)[0]'(by simp [ByteArray.size]) = 45 := rfl
      have g1s : (⟨([45, a] : Tx).toArray⟩ : ByteArray)[1]'(by simp [ByteArray.size]) = a := rfl
      have g0t : (⟨([a] : Tx).toArray⟩ : ByteArray)[0]'(by simp [ByteArray.size]) = a := rfl
      go_enter Tryd.func23, Tryd.ntmps23
      go_upto_region 10 with fail
      rw [show (#[a] : Array UInt8) = u.toArray by rw [← HU.out]]
      by_cases hbad : u.length = 0 ∨ 10 < u.length
      · have HV : Hid (numT ([45, a]) = none) := hide (by rw [HP.out, if_pos hbad])
        by_cases hu0 : u.length = 0
        · have k0 : (u.length : Int) < 1 := by omega
          clear hbad HP
          go_wp2
          go_ret2
          exact ⟨by rw [HV.out]; rfl, rfl⟩
        · have k0 : ¬ (u.length : Int) < 1 := by omega
          have k1 : (10 : Int) < (u.length : Int) := by omega
          clear hbad HP hu0
          go_wp2
          go_ret2
          exact ⟨by rw [HV.out]; rfl, rfl⟩
      · rw [if_neg hbad] at HP
        have k0 : ¬ (u.length : Int) < 1 := by omega
        have k1 : ¬ (10 : Int) < (u.length : Int) := by omega
        have hul : u.length ≤ 10 := by omega
        clear hbad
        go_upto_region 14 with fail
        go_loopw [7, 8] (fun nv iv wr' => ∃ i n : Nat, iv = .int .i64 (i : Int) ∧ nv = .int .i64 (n : Int) ∧ i ≤ u.length ∧ Hid (n < 10 ^ i) ∧ Hid (numF 10 0 u = numF 10 n (u.drop i)) ∧ wr' = w) (fun _ iv _ => u.length - (intOf iv).toNat)
        case atStart => exact ⟨0, 0, rfl, rfl, by omega, hide (by simp), hide (by simp), rfl⟩
        case round =>
          obtain ⟨i, n, rfl, rfl, hi, HNb, HF, rfl⟩ := hrel
          have hnb : n < 10000000000 := by
            have h1 := HNb.out
            have h2 : 10 ^ i ≤ 10 ^ 10 := Nat.pow_le_pow_right (by decide) (by omega)
            have h3 : 10 ^ 10 ≤ 10000000000 := by decide
            omega
          by_cases hlt : i < u.length
          · have hltI : (i : Int) < (u.length : Int) := by omega
            obtain ⟨d, hd⟩ : ∃ d, u[i] = d := ⟨_, rfl⟩
            have hg : (⟨u.toArray⟩ : ByteArray)[i]'hlt = d := hd
            have HFn := hide (find_any wr [48, 49, 50, 51, 52, 53, 54, 55, 56, 57, 97, 98, 99, 100, 101, 102] d (by simp))
            rw [fnd_hex] at HFn
            have hst : u.drop i = d :: u.drop (i + 1) := by rw [List.drop_eq_getElem_cons hlt, hd]
            obtain ⟨v, hv⟩ : ∃ v, digV d = v := ⟨_, rfl⟩
            rw [hv] at HFn
            by_cases hdb : v < 10
            · rw [if_pos (by omega)] at HFn
              have HF2 : Hid (numF 10 0 u = numF 10 (n * 10 + v) (u.drop (i + 1))) := hide (by rw [HF.out, hst, numF, hv, if_pos hdb])
              have HN2 : Hid (n * 10 + v < 10 ^ (i + 1)) := hide (by
                have h1 := HNb.out
                rw [Nat.pow_succ]
                omega)
              have v0 : ¬ (v : Int) < 0 := by omega
              have v1 : ¬ (10 : Int) ≤ (v : Int) := by omega
              have n1 : ((n * 10 + v : Nat) : Int) = (n : Int) * 10 + (v : Int) := by omega
              obtain ⟨n2, hn2⟩ : ∃ n2, n * 10 + v = n2 := ⟨_, rfl⟩
              have hw : wrap64 (wrap64 ((n : Int) * 10) + (v : Int)) = (n2 : Int) := by unfold wrap64; omega
              have hw' : (n : Int) * 10 + (v : Int) = (n2 : Int) := by omega
              rw [hn2] at HF2 HN2
              clear hst hv HF HNb hdb n1 hn2
              go_wp2_with fail
              refine HFn.out.mono ?_
              rintro e w1 ⟨rfl, rfl⟩
              go_wp2
              refine ⟨⟨i + 1, n2, by simp, by first | rfl | rw [hw'], by omega, HN2, HF2, trivial⟩, ?_⟩
              simp [intOf]
              omega
            · have HV : Hid (numT ([45, a]) = none) := hide (by rw [HP.out, HF.out, hst, numF, hv, if_neg hdb]; rfl)
              by_cases h16 : v < 16
              · rw [if_pos h16] at HFn
                have v0 : ¬ (v : Int) < 0 := by omega
                have v1 : (10 : Int) ≤ (v : Int) := by omega
                clear hst hv HF HNb hdb HP
                go_wp2_with fail
                refine HFn.out.mono ?_
                rintro e w1 ⟨rfl, rfl⟩
                go_wp2
                (try rw [Exit.noGoto_ret])
                go_ret2
                exact ⟨by rw [HV.out]; rfl, rfl⟩
              · rw [if_neg h16] at HFn
                clear hst hv HF HNb hdb HP
                go_wp2_with fail
                refine HFn.out.mono ?_
                rintro e w1 ⟨rfl, rfl⟩
                go_wp2
                (try rw [Exit.noGoto_ret])
                go_ret2
                exact ⟨by rw [HV.out]; rfl, rfl⟩
          · have hltI : ¬ (i : Int) < (u.length : Int) := by omega
            have HV : Hid (numT ([45, a]) = some (-(n : Int))) := hide (by rw [HP.out, HF.out, List.drop_eq_nil_iff.2 (by omega), numF]; rfl)
            clear HF HNb HP
            go_wp2
            go_ret2
            exact ⟨by rw [HV.out]; rfl, rfl⟩
    · have p2 : digT (48 :: 120 :: u) = u := by unfold digT Lib.trimPrefix Lib.hasPrefix; simp
      have p3 : basT (48 :: 120 :: u) = 16 := by unfold basT hexT Lib.hasPrefix; simp
      have p4 : mosT (48 :: 120 :: u) = 8 := by unfold mosT hexT Lib.hasPrefix; simp
      have p1 : absT (45 :: 48 :: 120 :: u) = 48 :: 120 :: u := by unfold absT Lib.trimPrefix Lib.hasPrefix; simp
      have p5 : minT (45 :: 48 :: 120 :: u) = true := by unfold minT Lib.hasPrefix; simp
      have HP := hide (num_parts p1 p2 p3 p4 p5)
      clear p1 p2 p3 p4 p5
      have e1 : (⟨(45 :: 48 :: 120 :: u : Tx).toArray⟩ : ByteArray).extract 1 (u.length + 1 + 1 + 1) = ⟨(48 :: 120 :: u : Tx).toArray⟩ := by rw [ext_mk]; simp
      have e2 : (⟨(48 :: 120 :: u : Tx).toArray⟩ : ByteArray).extract 2 (u.length + 1 + 1) = ⟨u.toArray⟩ := by rw [ext_mk]; simp
      have g0s : (⟨(45 :: 48 :: 120 :: u : Tx).toArray⟩ : ByteArray)[0]'(by simp [ByteArray.size]) = 45 := rfl
      have g1s : (⟨(45 :: 48 :: 120 :: u : Tx).toArray⟩ : ByteArray)[1]'(by simp [ByteArray.size]) = 48 := rfl
      have g0t : (⟨(48 :: 120 :: u : Tx).toArray⟩ : ByteArray)[0]'(by simp [ByteArray.size]) = 48 := rfl
      have g1t : (⟨(48 :: 120 :: u : Tx).toArray⟩ : ByteArray)[1]'(by simp [ByteArray.size]) = 120 := rfl
      have z2 : (2 : Int) ≤ ((u.length + 1 + 1 : Nat) : Int) := by omega
      go_enter Tryd.func23, Tryd.ntmps23
      go_upto_region 10 with fail
      by_cases hbad : u.length = 0 ∨ 8 < u.length
      · have HV : Hid (numT (45 :: 48 :: 120 :: u) = none) := hide (by rw [HP.out, if_pos hbad])
        by_cases hu0 : u.length = 0
        · have k0 : (u.length : Int) < 1 := by omega
          clear hbad HP
          go_wp2
          go_ret2
          exact ⟨by rw [HV.out]; rfl, rfl⟩
        · have k0 : ¬ (u.length : Int) < 1 := by omega
          have k1 : (8 : Int) < (u.length : Int) := by omega
          clear hbad HP hu0
          go_wp2
          go_ret2
          exact ⟨by rw [HV.out]; rfl, rfl⟩
      · rw [if_neg hbad] at HP
        have k0 : ¬ (u.length : Int) < 1 := by omega
        have k1 : ¬ (8 : Int) < (u.length : Int) := by omega
        have hul : u.length ≤ 8 := by omega
        clear hbad
        go_upto_region 14 with fail
        go_loopw [7, 8] (fun nv iv wr' => ∃ i n : Nat, iv = .int .i64 (i : Int) ∧ nv = .int .i64 (n : Int) ∧ i ≤ u.length ∧ Hid (n < 16 ^ i) ∧ Hid (numF 16 0 u = numF 16 n (u.drop i)) ∧ wr' = w) (fun _ iv _ => u.length - (intOf iv).toNat)
        case atStart => exact ⟨0, 0, rfl, rfl, by omega, hide (by simp), hide (by simp), rfl⟩
        case round =>
          obtain ⟨i, n, rfl, rfl, hi, HNb, HF, rfl⟩ := hrel
          have hnb : n < 10000000000 := by
            have h1 := HNb.out
            have h2 : 16 ^ i ≤ 16 ^ 8 := Nat.pow_le_pow_right (by decide) (by omega)
            have h3 : 16 ^ 8 ≤ 10000000000 := by decide
            omega
          by_cases hlt : i < u.length
          · have hltI : (i : Int) < (u.length : Int) := by omega
            obtain ⟨d, hd⟩ : ∃ d, u[i] = d := ⟨_, rfl⟩
            have hg : (⟨u.toArray⟩ : ByteArray)[i]'hlt = d := hd
            have HFn := hide (find_any wr [48, 49, 50, 51, 52, 53, 54, 55, 56, 57, 97, 98, 99, 100, 101, 102] d (by simp))
            rw [fnd_hex] at HFn
            have hst : u.drop i = d :: u.drop (i + 1) := by rw [List.drop_eq_getElem_cons hlt, hd]
            obtain ⟨v, hv⟩ : ∃ v, digV d = v := ⟨_, rfl⟩
            rw [hv] at HFn
            by_cases hdb : v < 16
            · rw [if_pos (by omega)] at HFn
              have HF2 : Hid (numF 16 0 u = numF 16 (n * 16 + v) (u.drop (i + 1))) := hide (by rw [HF.out, hst, numF, hv, if_pos hdb])
              have HN2 : Hid (n * 16 + v < 16 ^ (i + 1)) := hide (by
                have h1 := HNb.out
                rw [Nat.pow_succ]
                omega)
              have v0 : ¬ (v : Int) < 0 := by omega
              have v1 : ¬ (16 : Int) ≤ (v : Int) := by omega
              have n1 : ((n * 16 + v : Nat) : Int) = (n : Int) * 16 + (v : Int) := by omega
              obtain ⟨n2, hn2⟩ : ∃ n2, n * 16 + v = n2 := ⟨_, rfl⟩
              have hw : wrap64 (wrap64 ((n : Int) * 16) + (v : Int)) = (n2 : Int) := by unfold wrap64; omega
              have hw' : (n : Int) * 16 + (v : Int) = (n2 : Int) := by omega
              rw [hn2] at HF2 HN2
              clear hst hv HF HNb hdb n1 hn2
              go_wp2_with fail
              refine HFn.out.mono ?_
              rintro e w1 ⟨rfl, rfl⟩
              go_wp2
              refine ⟨⟨i + 1, n2, by simp, by first | rfl | rw [hw'], by omega, HN2, HF2, trivial⟩, ?_⟩
              simp [intOf]
              omega
            · have HV : Hid (numT (45 :: 48 :: 120 :: u) = none) := hide (by rw [HP.out, HF.out, hst, numF, hv, if_neg hdb]; rfl)
              by_cases h16 : v < 16
              · rw [if_pos h16] at HFn
                have v0 : ¬ (v : Int) < 0 := by omega
                have v1 : (16 : Int) ≤ (v : Int) := by omega
                clear hst hv HF HNb hdb HP
                go_wp2_with fail
                refine HFn.out.mono ?_
                rintro e w1 ⟨rfl, rfl⟩
                go_wp2
                (try rw [Exit.noGoto_ret])
                go_ret2
                exact ⟨by rw [HV.out]; rfl, rfl⟩
              · rw [if_neg h16] at HFn
                clear hst hv HF HNb hdb HP
                go_wp2_with fail
                refine HFn.out.mono ?_
                rintro e w1 ⟨rfl, rfl⟩
                go_wp2
                (try rw [Exit.noGoto_ret])
                go_ret2
                exact ⟨by rw [HV.out]; rfl, rfl⟩
          · have hltI : ¬ (i : Int) < (u.length : Int) := by omega
            have HV : Hid (numT (45 :: 48 :: 120 :: u) = some (-(n : Int))) := hide (by rw [HP.out, HF.out, List.drop_eq_nil_iff.2 (by omega), numF]; rfl)
            clear HF HNb HP
            go_wp2
            go_ret2
            exact ⟨by rw [HV.out]; rfl, rfl⟩
    · obtain ⟨u, hu⟩ : ∃ u : Tx, a :: b :: r = u := ⟨_, rfl⟩
      have hx : Lib.hasPrefix (a :: b :: r) [48, 120] = false := by show ((48 == a) && _) = false; rw [beq_eq_false_iff_ne.2 (Ne.symm ha)]; rfl
      have p2 : digT (a :: b :: r) = u := (pre_no hx).trans hu
      have p3 : basT (a :: b :: r) = 10 := by unfold basT hexT; rw [hx]; rfl
      have p4 : mosT (a :: b :: r) = 10 := by unfold mosT hexT; rw [hx]; rfl
      have p1 : absT (45 :: a :: b :: r) = a :: b :: r := by unfold absT Lib.trimPrefix Lib.hasPrefix; simp
      have p5 : minT (45 :: a :: b :: r) = true := by unfold minT Lib.hasPrefix; simp
      have HP := hide (num_parts p1 p2 p3 p4 p5)
      have HU := hide hu
      clear hu p1 p2 p3 p4 p5
      have f48 : ((a.toNat : Int) == 48) = false := u8_ne (n := 48) (by decide) ha
      have e1 : (⟨(45 :: a :: b :: r : Tx).toArray⟩ : ByteArray).extract 1 (r.length + 1 + 1 + 1) = ⟨(a :: b :: r : Tx).toArray⟩ := by rw [ext_mk]; simp
      have g0s : (⟨(45 :: a :: b :: r : Tx).toArray⟩ : ByteArray)[0]'(by simp [ByteArray.size]) = 45 := rfl
      have g1s : (⟨(45 :: a :: b :: r : Tx).toArray⟩ : ByteArray)[1]'(by simp [ByteArray.size]) = a := rfl
      have g0t : (⟨(a :: b :: r : Tx).toArray⟩ : ByteArray)[0]'(by simp [ByteArray.size]) = a := rfl
      have g1t : (⟨(a :: b :: r : Tx).toArray⟩ : ByteArray)[1]'(by simp [ByteArray.size]) = b := rfl
      have z2 : (2 : Int) ≤ ((r.length + 1 + 1 : Nat) : Int) := by omega
      go_enter Tryd.func23, Tryd.ntmps23
      go_upto_region 10 with fail
      rw [HU.out]
      by_cases hbad : u.length = 0 ∨ 10 < u.length
      · have HV : Hid (numT (45 :: a :: b :: r) = none) := hide (by rw [HP.out, if_pos hbad])
        by_cases hu0 : u.length = 0
        · have k0 : (u.length : Int) < 1 := by omega
          clear hbad HP
          go_wp2
          go_ret2
          exact ⟨by rw [HV.out]; rfl, rfl⟩
        · have k0 : ¬ (u.length : Int) < 1 := by omega
          have k1 : (10 : Int) < (u.length : Int) := by omega
          clear hbad HP hu0
          go_wp2
          go_ret2
          exact ⟨by rw [HV.out]; rfl, rfl⟩
      · rw [if_neg hbad] at HP
        have k0 : ¬ (u.length : Int) < 1 := by omega
        have k1 : ¬ (10 : Int) < (u.length : Int) := by omega
        have hul : u.length ≤ 10 := by omega
        clear hbad
        go_upto_region 14 with fail
        go_loopw [7, 8] (fun nv iv wr' => ∃ i n : Nat, iv = .int .i64 (i : Int) ∧ nv = .int .i64 (n : Int) ∧ i ≤ u.length ∧ Hid (n < 10 ^ i) ∧ Hid (numF 10 0 u = numF 10 n (u.drop i)) ∧ wr' = w) (fun _ iv _ => u.length - (intOf iv).toNat)
        case atStart => exact ⟨0, 0, rfl, rfl, by omega, hide (by simp), hide (by simp), rfl⟩
        case round =>
          obtain ⟨i, n, rfl, rfl, hi, HNb, HF, rfl⟩ := hrel
          have hnb : n < 10000000000 := by
            have h1 := HNb.out
            have h2 : 10 ^ i ≤ 10 ^ 10 := Nat.pow_le_pow_right (by decide) (by omega)
            have h3 : 10 ^ 10 ≤ 10000000000 := by decide
            omega
          by_cases hlt : i < u.length
          · have hltI : (i : Int) < (u.length : Int) := by omega
            obtain ⟨d, hd⟩ : ∃ d, u[i] = d := ⟨_, rfl⟩
            have hg : (⟨u.toArray⟩ : ByteArray)[i]'hlt = d := hd
            have HFn := hide (find_any wr [48, 49, 50, 51, 52, 53, 54, 55, 56, 57, 97, 98, 99, 100, 101, 102] d (by simp))
            rw [fnd_hex] at HFn
            have hst : u.drop i = d :: u.drop (i + 1) := by rw [List.drop_eq_getElem_cons hlt, hd]
            obtain ⟨v, hv⟩ : ∃ v, digV d = v := ⟨_, rfl⟩
            rw [hv] at HFn
            by_cases hdb : v < 10
            · rw [if_pos (by omega)] at HFn
              have HF2 : Hid (numF 10 0 u = numF 10 (n * 10 + v) (u.drop (i + 1))) := hide (by rw [HF.out, hst, numF, hv, if_pos hdb])
              have HN2 : Hid (n * 10 + v < 10 ^ (i + 1)) := hide (by
                have h1 := HNb.out
                rw [Nat.pow_succ]
                omega)
              have v0 : ¬ (v : Int) < 0 := by omega
              have v1 : ¬ (10 : Int) ≤ (v : Int) := by omega
              have n1 : ((n * 10 + v : Nat) : Int) = (n : Int) * 10 + (v : Int) := by omega
              obtain ⟨n2, hn2⟩ : ∃ n2, n * 10 + v = n2 := ⟨_, rfl⟩
              have hw : wrap64 (wrap64 ((n : Int) * 10) + (v : Int)) = (n2 : Int) := by unfold wrap64; omega
              have hw' : (n : Int) * 10 + (v : Int) = (n2 : Int) := by omega
              rw [hn2] at HF2 HN2
              clear hst hv HF HNb hdb n1 hn2
              go_wp2_with fail
              refine HFn.out.mono ?_
              rintro e w1 ⟨rfl, rfl⟩
              go_wp2
              refine ⟨⟨i + 1, n2, by simp, by first | rfl | rw [hw'], by omega, HN2, HF2, trivial⟩, ?_⟩
              simp [intOf]
              omega
            · have HV : Hid (numT (45 :: a :: b :: r) = none) := hide (by rw [HP.out, HF.out, hst, numF, hv, if_neg hdb]; rfl)
              by_cases h16 : v < 16
              · rw [if_pos h16] at HFn
                have v0 : ¬ (v : Int) < 0 := by omega
                have v1 : (10 : Int) ≤ (v : Int) := by omega
                clear hst hv HF HNb hdb HP
                go_wp2_with fail
                refine HFn.out.mono ?_
                rintro e w1 ⟨rfl, rfl⟩
                go_wp2
                (try rw [Exit.noGoto_ret])
                go_ret2
                exact ⟨by rw [HV.out]; rfl, rfl⟩
              · rw [if_neg h16] at HFn
                clear hst hv HF HNb hdb HP
                go_wp2_with fail
                refine HFn.out.mono ?_
                rintro e w1 ⟨rfl, rfl⟩
                go_wp2
                (try rw [Exit.noGoto_ret])
                go_ret2
                exact ⟨by rw [HV.out]; rfl, rfl⟩
          · have hltI : ¬ (i : Int) < (u.length : Int) := by omega
            have HV : Hid (numT (45 :: a :: b :: r) = some (-(n : Int))) := hide (by rw [HP.out, HF.out, List.drop_eq_nil_iff.2 (by omega), numF]; rfl)
            clear HF HNb HP
            go_wp2
            go_ret2
            exact ⟨by rw [HV.out]; rfl, rfl⟩
    · obtain ⟨u, hu⟩ : ∃ u : Tx, 48 :: b :: r = u := ⟨_, rfl⟩
      have hx : Lib.hasPrefix (48 :: b :: r) [48, 120] = false := by show ((48 == 48) && ((120 == b) && _)) = false; rw [beq_eq_false_iff_ne.2 (Ne.symm hb)]; rfl
      have p2 : digT (48 :: b :: r) = u := (pre_no hx).trans hu
      have p3 : basT (48 :: b :: r) = 10 := by unfold basT hexT; rw [hx]; rfl
      have p4 : mosT (48 :: b :: r) = 10 := by unfold mosT hexT; rw [hx]; rfl
      have p1 : absT (45 :: 48 :: b :: r) = 48 :: b :: r := by unfold absT Lib.trimPrefix Lib.hasPrefix; simp
      have p5 : minT (45 :: 48 :: b :: r) = true := by unfold minT Lib.hasPrefix; simp
      have HP := hide (num_parts p1 p2 p3 p4 p5)
      have HU := hide hu
      clear hu p1 p2 p3 p4 p5
      have f120 : ((b.toNat : Int) == 120) = false := u8_ne (n := 120) (by decide) hb
      have e1 : (⟨(45 :: 48 :: b :: r : Tx).toArray⟩ : ByteArray).extract 1 (r.length + 1 + 1 + 1) = ⟨(48 :: b :: r : Tx).toArray⟩ := by rw [ext_mk]; simp
      have g0s : (⟨(45 :: 48 :: b :: r : Tx).toArray⟩ : ByteArray)[0]'(by simp [ByteArray.size]) = 45 := rfl
      have g1s : (⟨(45 :: 48 :: b :: r : Tx).toArray⟩ : ByteArray)[1]'(by simp [ByteArray.size]) = 48 := rfl
      have g0t : (⟨(48 :: b :: r : Tx).toArray⟩ : ByteArray)[0]'(by simp [ByteArray.size]) = 48 := rfl
      have g1t : (⟨(48 :: b :: r : Tx).toArray⟩ : ByteArray)[1]'(by simp [ByteArray.size]) = b := rfl
      have z2 : (2 : Int) ≤ ((r.length + 1 + 1 : Nat) : Int) := by omega
      go_enter Tryd.func23, Tryd.ntmps23
      go_upto_region 10 with fail
      rw [HU.out]
      by_cases hbad : u.length = 0 ∨ 10 < u.length
      · have HV : Hid (numT (45 :: 48 :: b :: r) = none) := hide (by rw [HP.out, if_pos hbad])
        by_cases hu0 : u.length = 0
        · have k0 : (u.length : Int) < 1 := by omega
          clear hbad HP
          go_wp2
          go_ret2
          exact ⟨by rw [HV.out]; rfl, rfl⟩
        · have k0 : ¬ (u.length : Int) < 1 := by omega
          have k1 : (10 : Int) < (u.length : Int) := by omega
          clear hbad HP hu0
          go_wp2
          go_ret2
          exact ⟨by rw [HV.out]; rfl, rfl⟩
      · rw [if_neg hbad] at HP
        have k0 : ¬ (u.length : Int) < 1 := by omega
        have k1 : ¬ (10 : Int) < (u.length : Int) := by omega
        have hul : u.length ≤ 10 := by omega
        clear hbad
        go_upto_region 14 with fail
        go_loopw [7, 8] (fun nv iv wr' => ∃ i n : Nat, iv = .int .i64 (i : Int) ∧ nv = .int .i64 (n : Int) ∧ i ≤ u.length ∧ Hid (n < 10 ^ i) ∧ Hid (numF 10 0 u = numF 10 n (u.drop i)) ∧ wr' = w) (fun _ iv _ => u.length - (intOf iv).toNat)
        case atStart => exact ⟨0, 0, rfl, rfl, by omega, hide (by simp), hide (by simp), rfl⟩
        case round =>
          obtain ⟨i, n, rfl, rfl, hi, HNb, HF, rfl⟩ := hrel
          have hnb : n < 10000000000 := by
            have h1 := HNb.out
            have h2 : 10 ^ i ≤ 10 ^ 10 := Nat.pow_le_pow_right (by decide) (by omega)
            have h3 : 10 ^ 10 ≤ 10000000000 := by decide
            omega
          by_cases hlt : i < u.length
          · have hltI : (i : Int) < (u.length : Int) := by omega
            obtain ⟨d, hd⟩ : ∃ d, u[i] = d := ⟨_, rfl⟩
            have hg : (⟨u.toArray⟩ : ByteArray)[i]'hlt = d := hd
            have HFn := hide (find_any wr [48, 49, 50, 51, 52, 53, 54, 55, 56, 57, 97, 98, 99, 100, 101, 102] d (by simp))
            rw [fnd_hex] at HFn
            have hst : u.drop i = d :: u.drop (i + 1) := by rw [List.drop_eq_getElem_cons hlt, hd]
            obtain ⟨v, hv⟩ : ∃ v, digV d = v := ⟨_, rfl⟩
            rw [hv] at HFn
            by_cases hdb : v < 10
            · rw [if_pos (by omega)] at HFn
              have HF2 : Hid (numF 10 0 u = numF 10 (n * 10 + v) (u.drop (i + 1))) := hide (by rw [HF.out, hst, numF, hv, if_pos hdb])
              have HN2 : Hid (n * 10 + v < 10 ^ (i + 1)) := hide (by
                have h1 := HNb.out
                rw [Nat.pow_succ]
                omega)
              have v0 : ¬ (v : Int) < 0 := by omega
              have v1 : ¬ (10 : Int) ≤ (v : Int) := by omega
              have n1 : ((n * 10 + v : Nat) : Int) = (n : Int) * 10 + (v : Int) := by omega
              obtain ⟨n2, hn2⟩ : ∃ n2, n * 10 + v = n2 := ⟨_, rfl⟩
              have hw : wrap64 (wrap64 ((n : Int) * 10) + (v : Int)) = (n2 : Int) := by unfold wrap64; omega
              have hw' : (n : Int) * 10 + (v : Int) = (n2 : Int) := by omega
              rw [hn2] at HF2 HN2
              clear hst hv HF HNb hdb n1 hn2
              go_wp2_with fail
              refine HFn.out.mono ?_
              rintro e w1 ⟨rfl, rfl⟩
              go_wp2
              refine ⟨⟨i + 1, n2, by simp, by first | rfl | rw [hw'], by omega, HN2, HF2, trivial⟩, ?_⟩
              simp [intOf]
              omega
            · have HV : Hid (numT (45 :: 48 :: b :: r) = none) := hide (by rw [HP.out, HF.out, hst, numF, hv, if_neg hdb]; rfl)
              by_cases h16 : v < 16
              · rw [if_pos h16] at HFn
                have v0 : ¬ (v : Int) < 0 := by omega
                have v1 : (10 : Int) ≤ (v : Int) := by omega
                clear hst hv HF HNb hdb HP
                go_wp2_with fail
                refine HFn.out.mono ?_
                rintro e w1 ⟨rfl, rfl⟩
                go_wp2
                (try rw [Exit.noGoto_ret])
                go_ret2
                exact ⟨by rw [HV.out]; rfl, rfl⟩
              · rw [if_neg h16] at HFn
                clear hst hv HF HNb hdb HP
                go_wp2_with fail
                refine HFn.out.mono ?_
                rintro e w1 ⟨rfl, rfl⟩
                go_wp2
                (try rw [Exit.noGoto_ret])
                go_ret2
                exact ⟨by rw [HV.out]; rfl, rfl⟩
          · have hltI : ¬ (i : Int) < (u.length : Int) := by omega
            have HV : Hid (numT (45 :: 48 :: b :: r) = some (-(n : Int))) := hide (by rw [HP.out, HF.out, List.drop_eq_nil_iff.2 (by omega), numF]; rfl)
            clear HF HNb HP
            go_wp2
            go_ret2
            exact ⟨by rw [HV.out]; rfl, rfl⟩
  · rcases shapes s with rfl | ⟨a, rfl⟩ | ⟨u, rfl⟩ | ⟨a, b, r, rfl, ha⟩ | ⟨b, r, rfl, hb⟩
    · have HV : Hid (numT ([]) = none) := hide rfl
      go_enter Tryd.func23, Tryd.ntmps23
      go_wp2
      go_ret2
      exact ⟨by rw [HV.out]; rfl, rfl⟩
    · have hm : a ≠ 45 := fun e => hmi ⟨_, by rw [e]⟩
      obtain ⟨u, hu⟩ : ∃ u : Tx, [a] = u := ⟨_, rfl⟩
      have hx : Lib.hasPrefix ([a]) [48, 120] = false := by show ((48 == a) && false) = false; simp
      have p2 : digT ([a]) = u := (pre_no hx).trans hu
      have p3 : basT ([a]) = 10 := by unfold basT hexT; rw [hx]; rfl
      have p4 : mosT ([a]) = 10 := by unfold mosT hexT; rw [hx]; rfl
      have hmx : Lib.hasPrefix ([a]) [45] = false := by show ((45 == a) && _) = false; rw [beq_eq_false_iff_ne.2 (Ne.symm hm)]; rfl
      have p1 : absT ([a]) = [a] := pre_no hmx
      have p5 : minT ([a]) = false := hmx
      have HP := hide (num_parts p1 p2 p3 p4 p5)
      have HU := hide hu
      clear hu p1 p2 p3 p4 p5
      have f45 : ((a.toNat : Int) == 45) = false := u8_ne (n := 45) (by decide) hm
      have g0t : (⟨([a] : Tx).toArray⟩ : ByteArray)[0]'(by simp [ByteArray.size]) = a := rfl
      go_enter Tryd.func23, Tryd.ntmps23
      go_upto_region 10 with fail
      rw [show (#[a] : Array UInt8) = u.toArray by rw [← HU.out]]
      by_cases hbad : u.length = 0 ∨ 10 < u.length
      · have HV : Hid (numT ([a]) = none) := hide (by rw [HP.out, if_pos hbad])
        by_cases hu0 : u.length = 0
        · have k0 : (u.length : Int) < 1 := by omega
          clear hbad HP
          go_wp2
          go_ret2
          exact ⟨by rw [HV.out]; rfl, rfl⟩
        · have k0 : ¬ (u.length : Int) < 1 := by omega
          have k1 : (10 : Int) < (u.length : Int) := by omega
          clear hbad HP hu0
          go_wp2
          go_ret2
          exact ⟨by rw [HV.out]; rfl, rfl⟩
      · rw [if_neg hbad] at HP
        have k0 : ¬ (u.length : Int) < 1 := by omega
        have k1 : ¬ (10 : Int) < (u.length : Int) := by omega
        have hul : u.length ≤ 10 := by omega
        clear hbad
        go_upto_region 14 with fail
        go_loopw [7, 8] (fun nv iv wr' => ∃ i n : Nat, iv = .int .i64 (i : Int) ∧ nv = .int .i64 (n : Int) ∧ i ≤ u.length ∧ Hid (n < 10 ^ i) ∧ Hid (numF 10 0 u = numF 10 n (u.drop i)) ∧ wr' = w) (fun _ iv _ => u.length - (intOf iv).toNat)
        case atStart => exact ⟨0, 0, rfl, rfl, by omega, hide (by simp), hide (by simp), rfl⟩
        case round =>
          obtain ⟨i, n, rfl, rfl, hi, HNb, HF, rfl⟩ := hrel
          have hnb : n < 10000000000 := by
            have h1 := HNb.out
            have h2 : 10 ^ i ≤ 10 ^ 10 := Nat.pow_le_pow_right (by decide) (by omega)
            have h3 : 10 ^ 10 ≤ 10000000000 := by decide
            omega
          by_cases hlt : i < u.length
          · have hltI : (i : Int) < (u.length : Int) := by omega
            obtain ⟨d, hd⟩ : ∃ d, u[i] = d := ⟨_, rfl⟩
            have hg : (⟨u.toArray⟩ : ByteArray)[i]'hlt = d := hd
            have HFn := hide (find_any wr [48, 49, 50, 51, 52, 53, 54, 55, 56, 57, 97, 98, 99, 100, 101, 102] d (by simp))
            rw [fnd_hex] at HFn
            have hst : u.drop i = d :: u.drop (i + 1) := by rw [List.drop_eq_getElem_cons hlt, hd]
            obtain ⟨v, hv⟩ : ∃ v, digV d = v := ⟨_, rfl⟩
            rw [hv] at HFn
            by_cases hdb : v < 10
            · rw [if_pos (by omega)] at HFn
              have HF2 : Hid (numF 10 0 u = numF 10 (n * 10 + v) (u.drop (i + 1))) := hide (by rw [HF.out, hst, numF, hv, if_pos hdb])
              have HN2 : Hid (n * 10 + v < 10 ^ (i + 1)) := hide (by
                have h1 := HNb.out
                rw [Nat.pow_succ]
                omega)
              have v0 : ¬ (v : Int) < 0 := by omega
              have v1 : ¬ (10 : Int) ≤ (v : Int) := by omega
              have n1 : ((n * 10 + v : Nat) : Int) = (n : Int) * 10 + (v : Int) := by omega
              obtain ⟨n2, hn2⟩ : ∃ n2, n * 10 + v = n2 := ⟨_, rfl⟩
              have hw : wrap64 (wrap64 ((n : Int) * 10) + (v : Int)) = (n2 : Int) := by unfold wrap64; omega
              have hw' : (n : Int) * 10 + (v : Int) = (n2 : Int) := by omega
              rw [hn2] at HF2 HN2
              clear hst hv HF HNb hdb n1 hn2
              go_wp2_with fail
              refine HFn.out.mono ?_
              rintro e w1 ⟨rfl, rfl⟩
              go_wp2
              refine ⟨⟨i + 1, n2, by simp, by first | rfl | rw [hw'], by omega, HN2, HF2, trivial⟩, ?_⟩
              simp [intOf]
              omega
            · have HV : Hid (numT ([a]) = none) := hide (by rw [HP.out, HF.out, hst, numF, hv, if_neg hdb]; rfl)
              by_cases h16 : v < 16
              · rw [if_pos h16] at HFn
                have v0 : ¬ (v : Int) < 0 := by omega
                have v1 : (10 : Int) ≤ (v : Int) := by omega
                clear hst hv HF HNb hdb HP
                go_wp2_with fail
                refine HFn.out.mono ?_
                rintro e w1 ⟨rfl, rfl⟩
                go_wp2
                (try rw [Exit.noGoto_ret])
                go_ret2
                exact ⟨by rw [HV.out]; rfl, rfl⟩
              · rw [if_neg h16] at HFn
                clear hst hv HF HNb hdb HP
                go_wp2_with fail
                refine HFn.out.mono ?_
                rintro e w1 ⟨rfl, rfl⟩
                go_wp2
                (try rw [Exit.noGoto_ret])
                go_ret2
                exact ⟨by rw [HV.out]; rfl, rfl⟩
          · have hltI : ¬ (i : Int) < (u.length : Int) := by omega
            have HV : Hid (numT ([a]) = some ((n : Int))) := hide (by rw [HP.out, HF.out, List.drop_eq_nil_iff.2 (by omega), numF]; rfl)
            clear HF HNb HP
            go_wp2
            go_ret2
            exact ⟨by rw [HV.out]; rfl, rfl⟩
    · have p2 : digT (48 :: 120 :: u) = u := by unfold digT Lib.trimPrefix Lib.hasPrefix; simp
      have p3 : basT (48 :: 120 :: u) = 16 := by unfold basT hexT Lib.hasPrefix; simp
      have p4 : mosT (48 :: 120 :: u) = 8 := by unfold mosT hexT Lib.hasPrefix; simp
      have hmx : Lib.hasPrefix (48 :: 120 :: u) [45] = false := rfl
      have p1 : absT (48 :: 120 :: u) = 48 :: 120 :: u := pre_no hmx
      have p5 : minT (48 :: 120 :: u) = false := hmx
      have HP := hide (num_parts p1 p2 p3 p4 p5)
      clear p1 p2 p3 p4 p5
      have e2 : (⟨(48 :: 120 :: u : Tx).toArray⟩ : ByteArray).extract 2 (u.length + 1 + 1) = ⟨u.toArray⟩ := by rw [ext_mk]; simp
      have g0t : (⟨(48 :: 120 :: u : Tx).toArray⟩ : ByteArray)[0]'(by simp [ByteArray.size]) = 48 := rfl
      have g1t : (⟨(48 :: 120 :: u : Tx).toArray⟩ : ByteArray)[1]'(by simp [ByteArray.size]) = 120 := rfl
      have z2 : (2 : Int) ≤ ((u.length + 1 + 1 : Nat) : Int) := by omega
      go_enter Tryd.func23, Tryd.ntmps23
      go_upto_region 10 with fail
      by_cases hbad : u.length = 0 ∨ 8 < u.length
      · have HV : Hid (numT (48 :: 120 :: u) = none) := hide (by rw [HP.out, if_pos hbad])
        by_cases hu0 : u.length = 0
        · have k0 : (u.length : Int) < 1 := by omega
          clear hbad HP
          go_wp2
          go_ret2
          exact ⟨by rw [HV.out]; rfl, rfl⟩
        · have k0 : ¬ (u.length : Int) < 1 := by omega
          have k1 : (8 : Int) < (u.length : Int) := by omega
          clear hbad HP hu0
          go_wp2
          go_ret2
          exact ⟨by rw [HV.out]; rfl, rfl⟩
      · rw [if_neg hbad] at HP
        have k0 : ¬ (u.length : Int) < 1 := by omega
        have k1 : ¬ (8 : Int) < (u.length : Int) := by omega
        have hul : u.length ≤ 8 := by omega
        clear hbad
        go_upto_region 14 with fail
        go_loopw [7, 8] (fun nv iv wr' => ∃ i n : Nat, iv = .int .i64 (i : Int) ∧ nv = .int .i64 (n : Int) ∧ i ≤ u.length ∧ Hid (n < 16 ^ i) ∧ Hid (numF 16 0 u = numF 16 n (u.drop i)) ∧ wr' = w) (fun _ iv _ => u.length - (intOf iv).toNat)
        case atStart => exact ⟨0, 0, rfl, rfl, by omega, hide (by simp), hide (by simp), rfl⟩
        case round =>
          obtain ⟨i, n, rfl, rfl, hi, HNb, HF, rfl⟩ := hrel
          have hnb : n < 10000000000 := by
            have h1 := HNb.out
            have h2 : 16 ^ i ≤ 16 ^ 8 := Nat.pow_le_pow_right (by decide) (by omega)
            have h3 : 16 ^ 8 ≤ 10000000000 := by decide
            omega
          by_cases hlt : i < u.length
          · have hltI : (i : Int) < (u.length : Int) := by omega
            obtain ⟨d, hd⟩ : ∃ d, u[i] = d := ⟨_, rfl⟩
            have hg : (⟨u.toArray⟩ : ByteArray)[i]'hlt = d := hd
            have HFn := hide (find_any wr [48, 49, 50, 51, 52, 53, 54, 55, 56, 57, 97, 98, 99, 100, 101, 102] d (by simp))
            rw [fnd_hex] at HFn
            have hst : u.drop i = d :: u.drop (i + 1) := by rw [List.drop_eq_getElem_cons hlt, hd]
            obtain ⟨v, hv⟩ : ∃ v, digV d = v := ⟨_, rfl⟩
            rw [hv] at HFn
            by_cases hdb : v < 16
            · rw [if_pos (by omega)] at HFn
              have HF2 : Hid (numF 16 0 u = numF 16 (n * 16 + v) (u.drop (i + 1))) := hide (by rw [HF.out, hst, numF, hv, if_pos hdb])
              have HN2 : Hid (n * 16 + v < 16 ^ (i + 1)) := hide (by
                have h1 := HNb.out
                rw [Nat.pow_succ]
                omega)
              have v0 : ¬ (v : Int) < 0 := by omega
              have v1 : ¬ (16 : Int) ≤ (v : Int) := by omega
              have n1 : ((n * 16 + v : Nat) : Int) = (n : Int) * 16 + (v : Int) := by omega
              obtain ⟨n2, hn2⟩ : ∃ n2, n * 16 + v = n2 := ⟨_, rfl⟩
              have hw : wrap64 (wrap64 ((n : Int) * 16) + (v : Int)) = (n2 : Int) := by unfold wrap64; omega
              have hw' : (n : Int) * 16 + (v : Int) = (n2 : Int) := by omega
              rw [hn2] at HF2 HN2
              clear hst hv HF HNb hdb n1 hn2
              go_wp2_with fail
              refine HFn.out.mono ?_
              rintro e w1 ⟨rfl, rfl⟩
              go_wp2
              refine ⟨⟨i + 1, n2, by simp, by first | rfl | rw [hw'], by omega, HN2, HF2, trivial⟩, ?_⟩
              simp [intOf]
              omega
            · have HV : Hid (numT (48 :: 120 :: u) = none) := hide (by rw [HP.out, HF.out, hst, numF, hv, if_neg hdb]; rfl)
              by_cases h16 : v < 16
              · rw [if_pos h16] at HFn
                have v0 : ¬ (v : Int) < 0 := by omega
                have v1 : (16 : Int) ≤ (v : Int) := by omega
                clear hst hv HF HNb hdb HP
                go_wp2_with fail
                refine HFn.out.mono ?_
                rintro e w1 ⟨rfl, rfl⟩
                go_wp2
                (try rw [Exit.noGoto_ret])
                go_ret2
                exact ⟨by rw [HV.out]; rfl, rfl⟩
              · rw [if_neg h16] at HFn
                clear hst hv HF HNb hdb HP
                go_wp2_with fail
                refine HFn.out.mono ?_
                rintro e w1 ⟨rfl, rfl⟩
                go_wp2
                (try rw [Exit.noGoto_ret])
                go_ret2
                exact ⟨by rw [HV.out]; rfl, rfl⟩
          · have hltI : ¬ (i : Int) < (u.length : Int) := by omega
            have HV : Hid (numT (48 :: 120 :: u) = some ((n : Int))) := hide (by rw [HP.out, HF.out, List.drop_eq_nil_iff.2 (by omega), numF]; rfl)
            clear HF HNb HP
            go_wp2
            go_ret2
            exact ⟨by rw [HV.out]; rfl, rfl⟩
    · have hm : a ≠ 45 := fun e => hmi ⟨_, by rw [e]⟩
      obtain ⟨u, hu⟩ : ∃ u : Tx, a :: b :: r = u := ⟨_, rfl⟩
      have hx : Lib.hasPrefix (a :: b :: r) [48, 120] = false := by show ((48 == a) && _) = false; rw [beq_eq_false_iff_ne.2 (Ne.symm ha)]; rfl
      have p2 : digT (a :: b :: r) = u := (pre_no hx).trans hu
      have p3 : basT (a :: b :: r) = 10 := by unfold basT hexT; rw [hx]; rfl
      have p4 : mosT (a :: b :: r) = 10 := by unfold mosT hexT; rw [hx]; rfl
      have hmx : Lib.hasPrefix (a :: b :: r) [45] = false := by show ((45 == a) && _) = false; rw [beq_eq_false_iff_ne.2 (Ne.symm hm)]; rfl
      have p1 : absT (a :: b :: r) = a :: b :: r := pre_no hmx
      have p5 : minT (a :: b :: r) = false := hmx
      have HP := hide (num_parts p1 p2 p3 p4 p5)
      have HU := hide hu
      clear hu p1 p2 p3 p4 p5
      have f45 : ((a.toNat : Int) == 45) = false := u8_ne (n := 45) (by decide) hm
      have f48 : ((a.toNat : Int) == 48) = false := u8_ne (n := 48) (by decide) ha
      have g0t : (⟨(a :: b :: r : Tx).toArray⟩ : ByteArray)[0]'(by simp [ByteArray.size]) = a := rfl
      have g1t : (⟨(a :: b :: r : Tx).toArray⟩ : ByteArray)[1]'(by simp [ByteArray.size]) = b := rfl
      have z2 : (2 : Int) ≤ ((r.length + 1 + 1 : Nat) : Int) := by omega
      go_enter Tryd.func23, Tryd.ntmps23
      go_upto_region 10 with fail
      rw [HU.out]
      by_cases hbad : u.length = 0 ∨ 10 < u.length
      · have HV : Hid (numT (a :: b :: r) = none) := hide (by rw [HP.out, if_pos hbad])
        by_cases hu0 : u.length = 0
        · have k0 : (u.length : Int) < 1 := by omega
          clear hbad HP
          go_wp2
          go_ret2
          exact ⟨by rw [HV.out]; rfl, rfl⟩
        · have k0 : ¬ (u.length : Int) < 1 := by omega
          have k1 : (10 : Int) < (u.length : Int) := by omega
          clear hbad HP hu0
          go_wp2
          go_ret2
          exact ⟨by rw [HV.out]; rfl, rfl⟩
      · rw [if_neg hbad] at HP
        have k0 : ¬ (u.length : Int) < 1 := by omega
        have k1 : ¬ (10 : Int) < (u.length : Int) := by omega
        have hul : u.length ≤ 10 := by omega
        clear hbad
        go_upto_region 14 with fail
        go_loopw [7, 8] (fun nv iv wr' => ∃ i n : Nat, iv = .int .i64 (i : Int) ∧ nv = .int .i64 (n : Int) ∧ i ≤ u.length ∧ Hid (n < 10 ^ i) ∧ Hid (numF 10 0 u = numF 10 n (u.drop i)) ∧ wr' = w) (fun _ iv _ => u.length - (intOf iv).toNat)
        case atStart => exact ⟨0, 0, rfl, rfl, by omega, hide (by simp), hide (by simp), rfl⟩
        case round =>
          obtain ⟨i, n, rfl, rfl, hi, HNb, HF, rfl⟩ := hrel
          have hnb : n < 10000000000 := by
            have h1 := HNb.out
            have h2 : 10 ^ i ≤ 10 ^ 10 := Nat.pow_le_pow_right (by decide) (by omega)
            have h3 : 10 ^ 10 ≤ 10000000000 := by decide
            omega
          by_cases hlt : i < u.length
          · have hltI : (i : Int) < (u.length : Int) := by omega
            obtain ⟨d, hd⟩ : ∃ d, u[i] = d := ⟨_, rfl⟩
            have hg : (⟨u.toArray⟩ : ByteArray)[i]'hlt = d := hd
            have HFn := hide (find_any wr [48, 49, 50, 51, 52, 53, 54, 55, 56, 57, 97, 98, 99, 100, 101, 102] d (by simp))
            rw [fnd_hex] at HFn
            have hst : u.drop i = d :: u.drop (i + 1) := by rw [List.drop_eq_getElem_cons hlt, hd]
            obtain ⟨v, hv⟩ : ∃ v, digV d = v := ⟨_, rfl⟩
            rw [hv] at HFn
            by_cases hdb : v < 10
            · rw [if_pos (by omega)] at HFn
              have HF2 : Hid (numF 10 0 u = numF 10 (n * 10 + v) (u.drop (i + 1))) := hide (by rw [HF.out, hst, numF, hv, if_pos hdb])
              have HN2 : Hid (n * 10 + v < 10 ^ (i + 1)) := hide (by
                have h1 := HNb.out
                rw [Nat.pow_succ]
                omega)
              have v0 : ¬ (v : Int) < 0 := by omega
              have v1 : ¬ (10 : Int) ≤ (v : Int) := by omega
              have n1 : ((n * 10 + v : Nat) : Int) = (n : Int) * 10 + (v : Int) := by omega
              obtain ⟨n2, hn2⟩ : ∃ n2, n * 10 + v = n2 := ⟨_, rfl⟩
              have hw : wrap64 (wrap64 ((n : Int) * 10) + (v : Int)) = (n2 : Int) := by unfold wrap64; omega
              have hw' : (n : Int) * 10 + (v : Int) = (n2 : Int) := by omega
              rw [hn2] at HF2 HN2
              clear hst hv HF HNb hdb n1 hn2
              go_wp2_with fail
              refine HFn.out.mono ?_
              rintro e w1 ⟨rfl, rfl⟩
              go_wp2
              refine ⟨⟨i + 1, n2, by simp, by first | rfl | rw [hw'], by omega, HN2, HF2, trivial⟩, ?_⟩
              simp [intOf]
              omega
            · have HV : Hid (numT (a :: b :: r) = none) := hide (by rw [HP.out, HF.out, hst, numF, hv, if_neg hdb]; rfl)
              by_cases h16 : v < 16
              · rw [if_pos h16] at HFn
                have v0 : ¬ (v : Int) < 0 := by omega
                have v1 : (10 : Int) ≤ (v : Int) := by omega
                clear hst hv HF HNb hdb HP
                go_wp2_with fail
                refine HFn.out.mono ?_
                rintro e w1 ⟨rfl, rfl⟩
                go_wp2
                (try rw [Exit.noGoto_ret])
                go_ret2
                exact ⟨by rw [HV.out]; rfl, rfl⟩
              · rw [if_neg h16] at HFn
                clear hst hv HF HNb hdb HP
                go_wp2_with fail
                refine HFn.out.mono ?_
                rintro e w1 ⟨rfl, rfl⟩
                go_wp2
                (try rw [Exit.noGoto_ret])
                go_ret2
                exact ⟨by rw [HV.out]; rfl, rfl⟩
          · have hltI : ¬ (i : Int) < (u.length : Int) := by omega
            have HV : Hid (numT (a :: b :: r) = some ((n : Int))) := hide (by rw [HP.out, HF.out, List.drop_eq_nil_iff.2 (by omega), numF]; rfl)
            clear HF HNb HP
            go_wp2
            go_ret2
            exact ⟨by rw [HV.out]; rfl, rfl⟩
    · obtain ⟨u, hu⟩ : ∃ u : Tx, 48 :: b :: r = u := ⟨_, rfl⟩
      have hx : Lib.hasPrefix (48 :: b :: r) [48, 120] = false := by show ((48 == 48) && ((120 == b) && _)) = false; rw [beq_eq_false_iff_ne.2 (Ne.symm hb)]; rfl
      have p2 : digT (48 :: b :: r) = u := (pre_no hx).trans hu
      have p3 : basT (48 :: b :: r) = 10 := by unfold basT hexT; rw [hx]; rfl
      have p4 : mosT (48 :: b :: r) = 10 := by unfold mosT hexT; rw [hx]; rfl
      have hmx : Lib.hasPrefix (48 :: b :: r) [45] = false := rfl
      have p1 : absT (48 :: b :: r) = 48 :: b :: r := pre_no hmx
      have p5 : minT (48 :: b :: r) = false := hmx
      have HP := hide (num_parts p1 p2 p3 p4 p5)
      have HU := hide hu
      clear hu p1 p2 p3 p4 p5
      have f120 : ((b.toNat : Int) == 120) = false := u8_ne (n := 120) (by decide) hb
      have g0t : (⟨(48 :: b :: r : Tx).toArray⟩ : ByteArray)[0]'(by simp [ByteArray.size]) = 48 := rfl
      have g1t : (⟨(48 :: b :: r : Tx).toArray⟩ : ByteArray)[1]'(by simp [ByteArray.size]) = b := rfl
      have z2 : (2 : Int) ≤ ((r.length + 1 + 1 : Nat) : Int) := by omega
      go_enter Tryd.func23, Tryd.ntmps23
      go_upto_region 10 with fail
      rw [HU.out]
      by_cases hbad : u.length = 0 ∨ 10 < u.length
      · have HV : Hid (numT (48 :: b :: r) = none) := hide (by rw [HP.out, if_pos hbad])
        by_cases hu0 : u.length = 0
        · have k0 : (u.length : Int) < 1 := by omega
          clear hbad HP
          go_wp2
          go_ret2
          exact ⟨by rw [HV.out]; rfl, rfl⟩
        · have k0 : ¬ (u.length : Int) < 1 := by omega
          have k1 : (10 : Int) < (u.length : Int) := by omega
          clear hbad HP hu0
          go_wp2
          go_ret2
          exact ⟨by rw [HV.out]; rfl, rfl⟩
      · rw [if_neg hbad] at HP
        have k0 : ¬ (u.length : Int) < 1 := by omega
        have k1 : ¬ (10 : Int) < (u.length : Int) := by omega
        have hul : u.length ≤ 10 := by omega
        clear hbad
        go_upto_region 14 with fail
        go_loopw [7, 8] (fun nv iv wr' => ∃ i n : Nat, iv = .int .i64 (i : Int) ∧ nv = .int .i64 (n : Int) ∧ i ≤ u.length ∧ Hid (n < 10 ^ i) ∧ Hid (numF 10 0 u = numF 10 n (u.drop i)) ∧ wr' = w) (fun _ iv _ => u.length - (intOf iv).toNat)
        case atStart => exact ⟨0, 0, rfl, rfl, by omega, hide (by simp), hide (by simp), rfl⟩
        case round =>
          obtain ⟨i, n, rfl, rfl, hi, HNb, HF, rfl⟩ := hrel
          have hnb : n < 10000000000 := by
            have h1 := HNb.out
            have h2 : 10 ^ i ≤ 10 ^ 10 := Nat.pow_le_pow_right (by decide) (by omega)
            have h3 : 10 ^ 10 ≤ 10000000000 := by decide
            omega
          by_cases hlt : i < u.length
          · have hltI : (i : Int) < (u.length : Int) := by omega
            obtain ⟨d, hd⟩ : ∃ d, u[i] = d := ⟨_, rfl⟩
            have hg : (⟨u.toArray⟩ : ByteArray)[i]'hlt = d := hd
            have HFn := hide (find_any wr [48, 49, 50, 51, 52, 53, 54, 55, 56, 57, 97, 98, 99, 100, 101, 102] d (by simp))
            rw [fnd_hex] at HFn
            have hst : u.drop i = d :: u.drop (i + 1) := by rw [List.drop_eq_getElem_cons hlt, hd]
            obtain ⟨v, hv⟩ : ∃ v, digV d = v := ⟨_, rfl⟩
            rw [hv] at HFn
            by_cases hdb : v < 10
            · rw [if_pos (by omega)] at HFn
              have HF2 : Hid (numF 10 0 u = numF 10 (n * 10 + v) (u.drop (i + 1))) := hide (by rw [HF.out, hst, numF, hv, if_pos hdb])
              have HN2 : Hid (n * 10 + v < 10 ^ (i + 1)) := hide (by
                have h1 := HNb.out
                rw [Nat.pow_succ]
                omega)
              have v0 : ¬ (v : Int) < 0 := by omega
              have v1 : ¬ (10 : Int) ≤ (v : Int) := by omega
              have n1 : ((n * 10 + v : Nat) : Int) = (n : Int) * 10 + (v : Int) := by omega
              obtain ⟨n2, hn2⟩ : ∃ n2, n * 10 + v = n2 := ⟨_, rfl⟩
              have hw : wrap64 (wrap64 ((n : Int) * 10) + (v : Int)) = (n2 : Int) := by unfold wrap64; omega
              have hw' : (n : Int) * 10 + (v : Int) = (n2 : Int) := by omega
              rw [hn2] at HF2 HN2
              clear hst hv HF HNb hdb n1 hn2
              go_wp2_with fail
              refine HFn.out.mono ?_
              rintro e w1 ⟨rfl, rfl⟩
              go_wp2
              refine ⟨⟨i + 1, n2, by simp, by first | rfl | rw [hw'], by omega, HN2, HF2, trivial⟩, ?_⟩
              simp [intOf]
              omega
            · have HV : Hid (numT (48 :: b :: r) = none) := hide (by rw [HP.out, HF.out, hst, numF, hv, if_neg hdb]; rfl)
              by_cases h16 : v < 16
              · rw [if_pos h16] at HFn
                have v0 : ¬ (v : Int) < 0 := by omega
                have v1 : (10 : Int) ≤ (v : Int) := by omega
                clear hst hv HF HNb hdb HP
                go_wp2_with fail
                refine HFn.out.mono ?_
                rintro e w1 ⟨rfl, rfl⟩
                go_wp2
                (try rw [Exit.noGoto_ret])
                go_ret2
                exact ⟨by rw [HV.out]; rfl, rfl⟩
              · rw [if_neg h16] at HFn
                clear hst hv HF HNb hdb HP
                go_wp2_with fail
                refine HFn.out.mono ?_
                rintro e w1 ⟨rfl, rfl⟩
                go_wp2
                (try rw [Exit.noGoto_ret])
                go_ret2
                exact ⟨by rw [HV.out]; rfl, rfl⟩
          · have hltI : ¬ (i : Int) < (u.length : Int) := by omega
            have HV : Hid (numT (48 :: b :: r) = some ((n : Int))) := hide (by rw [HP.out, HF.out, List.drop_eq_nil_iff.2 (by omega), numF]; rfl)
            clear HF HNb HP
            go_wp2
            go_ret2
            exact ⟨by rw [HV.out]; rfl, rfl⟩
end
end Go.Proofs.YtbfagiofhakjnaaDoor
