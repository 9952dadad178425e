import Derived.Test.YtogpgchfaalikaaXC
namespace Go.Proofs.Ytogpgchfaalikaa
open Go.RowKit

theorem quS_free {C : Nat → Cl} {L n : Nat} {s : Int} (hs : 1 ≤ s ∧ s ≤ 4611686018427387903) (hn : n < 32) (h : (C n).ho = 0) : clr C L (n : Int) s = ((n : Int), 0) ∧ clC C L (n : Int) s = put C n ⟨s, 1⟩ := by
  have h1 : ¬ (n : Int) = -1 := by omega
  have h2 : (0 : Int) ≤ n ∧ (n : Int) < 32 := by omega
  have h3 : isCl C (n : Int) = false := by rw [isCl_nat C hn]; simp [h]
  have h4 : clr C L (n : Int) s = ((n : Int), 0) := by
    unfold clr chr
    rw [if_neg (by omega), if_neg h1, if_neg (by simpa using h2), h3]; rfl
  exact ⟨h4, by unfold clC; rw [h4, if_pos rfl]; rfl⟩
theorem quS_taken {C : Nat → Cl} {L n : Nat} {s : Int} (hs : 1 ≤ s ∧ s ≤ 4611686018427387903) (hn : n < 32) (h : 0 < (C n).ho) : clr C L (n : Int) s = (-1, 101) ∧ clC C L (n : Int) s = C := by
  have h1 : ¬ (n : Int) = -1 := by omega
  have h2 : (0 : Int) ≤ n ∧ (n : Int) < 32 := by omega
  have h3 : isCl C (n : Int) = true := by rw [isCl_nat C hn]; simp [h]
  have h4 : clr C L (n : Int) s = (-1, 101) := by
    unfold clr chr
    rw [if_neg (by omega), if_neg h1, if_neg (by simpa using h2), h3]; rfl
  exact ⟨h4, by unfold clC; rw [h4, if_neg (by decide)]⟩
/-- what the law has in its hands -/
structure Qd (w wr : World) (B T : Nat) (C : Nat → Cl) (D : Dsk) (F : Nat → Prop) : Prop where
  dk : DkA B D wr F
  tab : Tb wr T (dvB B) C
  nT : ¬ F T
  lF : ∀ b, F b → w.heap.size ≤ b
  lT : w.heap.size ≤ T
  bel : Below w.heap.size w wr
section
variable {w wr w2 : World} {B T : Nat} {C : Nat → Cl} {D : Dsk} {F : Nat → Prop}
theorem Qd.below (h : Qd w wr B T C D F) (hb : Below wr.heap.size wr w2) : Qd w w2 B T C D F :=
  ⟨(good_dk _ _).below h.dk hb, h.tab.below hb, h.nT, h.lF, h.lT, h.bel.trans (hb.mono h.bel.size)⟩
theorem Qd.claim (h : Qd w wr B T C D F) (ha : At wr T w2) {C' : Nat → Cl} (ht : Tb w2 T (dvB B) C') : Qd w w2 B T C' D F :=
  ⟨(good_dk _ _).keep h.dk ha.size (fun b hb => ha.block b ((good_dk _ _).lt h.dk b hb) (fun e => h.nT (e ▸ hb))), ht, h.nT, h.lF, h.lT,
   h.bel.trans ⟨ha.os, ha.tape, ha.output, ha.size, fun k hk => by
    have h1 := h.bel.size; have h2 := h.lT
    exact ha.block k (by omega) (by omega)⟩⟩
theorem Qd.disk (h : Qd w wr B T C D F) {D' : Dsk} {F' : Nat → Prop} (hd : DkA B D' w2 F') (hx : Ext F wr F' w2) : Qd w w2 B T C D' F' :=
  ⟨hd, h.tab.keep (hx.mod.block T h.tab.lt h.nT), fun hf => (hx.new T hf).elim h.nT (fun e => by have := h.tab.lt; omega), hx.low h.lF h.bel.size, h.lT, h.bel.trans (hx.mod.below h.lF h.bel.size)⟩
end
/-- a disk that is down, with writes waiting -/
def dwn (c : List (Nat × List Nat)) (A : Nat) : Dsk := ⟨zro, c, A, true, 0, true⟩
def z195 : List Nat := List.replicate 128 195
/-- what is claimed behind k numbers -/
structure QC (Z : Nat → Int) (k : Nat) (C : Nat → Cl) : Prop where
  se : (C 3).se = 9
  ho : (C 3).ho = 1
  is : ∀ n, n < 32 → decide (0 < (C n).ho) = (n == 3 || tk Z k n)
theorem QC.zero (Z : Nat → Int) : QC Z 0 (put (fun _ => Cl.zero) 3 ⟨9, 1⟩) := by
  refine ⟨rfl, rfl, fun n hn => ?_⟩
  rw [tk_zero]
  by_cases e : n = 3
  · subst e; rfl
  · rw [put_other _ _ e]; simp [Cl.zero, e]
theorem QC.same {Z : Nat → Int} {k n : Nat} {C : Nat → Cl} (h : QC Z k C) (hn : n < 32) (hz : (Z k % 32).toNat = n) (h0 : 0 < (C n).ho) : QC Z (k + 1) C := by
  refine ⟨h.se, h.ho, fun m hm => ?_⟩
  rw [tk_succ, hz, h.is m hm]
  by_cases e : n = m
  · subst e
    have := h.is n hn
    rw [show decide (0 < (C n).ho) = true by simp [h0]] at this
    cases h3 : (n == 3) <;> cases ht : tk Z k n <;> simp_all
  · have : (n == m) = false := by simp [e]
    rw [this]; simp
theorem QC.next {Z : Nat → Int} {k n : Nat} {C : Nat → Cl} (h : QC Z k C) (hn : n < 32) (hz : (Z k % 32).toNat = n) (h0 : (C n).ho = 0) (s : Int) : n ≠ 3 ∧ tk Z k n = false ∧ QC Z (k + 1) (put C n ⟨s, 1⟩) := by
  have h1 := h.is n hn
  rw [show decide (0 < (C n).ho) = false by simp [h0]] at h1
  have h3 : n ≠ 3 := fun e => by rw [e] at h0; rw [h.ho] at h0; cases h0
  have ht : tk Z k n = false := by
    cases hq : tk Z k n
    · rfl
    · rw [hq] at h1; simp at h1
  refine ⟨h3, ht, by rw [put_other _ _ (fun e => h3 e.symm)]; exact h.se, by rw [put_other _ _ (fun e => h3 e.symm)]; exact h.ho, fun m hm => ?_⟩
  rw [tk_succ, hz]
  by_cases e : m = n
  · subst e; rw [put_same]; simp
  · rw [put_other _ _ e, h.is m hm]
    have : (n == m) = false := by simp; exact fun e' => e e'.symm
    rw [this]; simp
theorem keptTo_low {p : Nat → Bool} (c : List (Nat × List Nat)) {n : Nat} (hp : ∀ j, j < n → p j = false) : ∀ i, i ≤ n → keptTo p c i = []
  | 0, _ => rfl
  | i + 1, h => by rw [keptTo_no (hp i (by omega)), keptTo_low c hp i (by omega)]
/-- what a crash keeps that keeps none but, maybe, the last -/
theorem kept_it (Z : Nat → Int) (n : Nat) (ks : List Bool) : keptTo (kp (List.replicate n false ++ ks)) (fil Z n ++ [(127, z195)]) (n + 1) = if ks.getD 0 false then [(127, z195)] else [] := by
  have h1 : ∀ j, j < n → kp (List.replicate n false ++ ks) j = false := fun j hj => by
    unfold kp; rw [List.getD_eq_getElem?_getD, List.getElem?_append_left (by simpa using hj), List.getElem?_replicate, if_pos hj]; rfl
  have h2 : kp (List.replicate n false ++ ks) n = ks.getD 0 false := by
    unfold kp; rw [List.getD_eq_getElem?_getD, List.getElem?_append_right (by simp), List.length_replicate, Nat.sub_self, List.getD_eq_getElem?_getD]
  have h3 : (fil Z n ++ [(127, z195)])[n]? = some (127, z195) := by
    rw [List.getElem?_append_right (by rw [fil_len]; exact Nat.le_refl _), fil_len, Nat.sub_self]; rfl
  have h4 := keptTo_low (fil Z n ++ [(127, z195)]) h1 n (Nat.le_refl _)
  cases hb : ks.getD 0 false
  · rw [keptTo_no (by rw [h2, hb]), h4]; rfl
  · rw [keptTo_yes (by rw [h2, hb]) h3, h4]; rfl
theorem seen_it (Z : Nat → Int) (n A : Nat) (ks : List Bool) : ((dwn (fil Z n ++ [(127, z195)]) A).up.settled (kp (List.replicate n false ++ ks))).seen 127 = if ks.getD 0 false then z195 else List.replicate 128 0 := by
  show play (play zro (keptTo (kp (List.replicate n false ++ ks)) (fil Z n ++ [(127, z195)]) (fil Z n ++ [(127, z195)]).length)) [] 127 = _
  have hl : (fil Z n ++ [(127, z195)]).length = n + 1 := by rw [List.length_append, fil_len]; rfl
  rw [hl, kept_it, play_nil]
  cases ks.getD 0 false
  · rfl
  · show upd zro 127 z195 127 = z195
    exact upd_same _ _ _
theorem RdB.first {w : World} {a : Option Addr} {n cap : Nat} {ks : List Bool} {b : Bool} (h : RdB w (.slice a n cap) ks) (hb : ks[0]? = some b) : ∃ x, a = some x ∧ w.cell? x = some (.bool b) := by
  rcases h with ⟨h1, rfl⟩ | ⟨x, cp, h1, h2⟩
  · simp at hb
  · cases h1
    have := h2 0 (.bool b) (by simp [hb])
    rw [show x.add 0 = x by unfold Addr.add; simp] at this
    exact ⟨x, rfl, this⟩
set_option maxRecDepth 100000 in
set_option maxHeartbeats 6400000 in
theorem quiet_walk (w : World) (a1 a2 : Option Addr) (v3 : Value) (len1 cap1 len2 cap2 : Nat) (Z1 Z2 : Nat → Int) (ks : List Bool) (hl1 : len1 ≤ 1048576) (hl2 : len2 ≤ 1048576) (hl3 : len1 + ks.length ≤ 1048576) (hcap : len2 ≤ cap2)
    (h1 : IsInts w a1 len1 Z1) (h2 : IsInts w a2 len2 Z2) (h3 : RdB w v3 ks) :
    Calls Try.prog 6 #[.slice a1 len1 cap1, .slice a2 len2 cap2, v3] w fun e w' => e = .returned (.bool true) ∧ Below w.heap.size w w' := by
  have H1 := hide h1
  have H2 := hide h2
  have H3 := hide h3
  obtain ⟨a3, cap3, rfl⟩ := h3.len
  clear h1 h2 h3
  go_enter Try.func6, Try.ntmps6
  go_wp2_with fail
  refine (filled_any w a1 len1 cap1 Z1 hl1 H1.out).mono ?_
  rintro e1 w1 ⟨B, F, rfl, hD, hF, hb1⟩
  have HD1 := hide hD
  have HF1 := hide hF
  have HB1 := hide hb1
  clear hD hF hb1
  go_wp2_with fail
  refine (newE_any w1 B).mono ?_
  rintro e1 w2 ⟨rfl, hT, hb2⟩
  have K2 : Hid (Qd w w2 B w1.heap.size (fun _ => Cl.zero) (wait zro (fil Z1 len1) len1) F) := by
    have hlt := (good_dk _ _).lt HD1.out
    exact hide ⟨(good_dk _ _).below HD1.out hb2, hT, fun hf => by have := hlt _ hf; omega, HF1.out, HB1.out.size, HB1.out.trans (hb2.mono HB1.out.size)⟩
  clear hT hb2 HD1 HF1 HB1
  generalize w1.heap.size = T at *
  obtain ⟨L, hL⟩ := low_any (fun _ => Cl.zero)
  have hq := quS_free (C := fun _ => Cl.zero) (L := L) (n := 3) (s := 9) (by omega) (by omega) rfl
  have HC := hide (claim_any w2 T (dvB B) _ K2.out.tab L hL 3 9)
  rw [show (3 : Int) = ((3 : Nat) : Int) from rfl, hq.1, hq.2] at HC
  clear hL hq
  go_wp2_with fail
  refine HC.out.mono ?_
  rintro e1 w3 ⟨rfl, hT3, hA3⟩
  have K3 := hide (K2.out.claim hA3 hT3)
  clear hT3 hA3 HC K2
  generalize hC3 : put (fun _ => Cl.zero) 3 ⟨9, 1⟩ = C3 at *
  have HQ0 : Hid (QC Z2 0 C3) := hide (by rw [← hC3]; exact QC.zero Z2)
  have hho3 : (C3 3).ho = 1 := HQ0.out.ho
  clear hC3
  go_wp2_with fail
  refine (run_any w3 195 128 (by omega)).mono ?_
  rintro e1 w4 ⟨v1, rfl, hv1, hb4⟩
  have HW := hide (writeE_ok (K3.out.below hb4).tab (K3.out.below hb4).dk 3 31 (by omega) (by omega) (by rw [hho3]; omega) v1 _ hv1.rd (sec_rep 195 (by omega)) (own_farD hv1 K3.out.dk) rfl (fun h => by cases h) (by show len1 < _; omega) (by show (fil Z1 len1).length < _; rw [fil_len]; omega))
  have K4 := hide (K3.out.below hb4)
  clear hv1 hb4 K3
  go_wp2_with fail
  refine HW.out.mono ?_
  rintro e1 w5 ⟨rfl, F5, hD5, hX5⟩
  have K5 : Hid (Qd w w5 B T C3 (wait zro (fil Z1 len1 ++ [(127, z195)]) (len1 + 1)) F5) := hide (K4.out.disk hD5 hX5)
  clear hD5 hX5 HW K4
  have hcl : (fil Z1 len1 ++ [(127, z195)]).length = len1 + 1 := by rw [List.length_append, fil_len]; rfl
  have HCC : Hid (fil Z1 len1 ++ [(127, z195)] = fil Z1 len1 ++ [(127, z195)]) := hide rfl
  generalize hcc : fil Z1 len1 ++ [(127, z195)] = cc at K5 hcl
  have HCc := hide hcc
  clear hcc HCC
  have HP := hide (pending_any K5.out.dk (by show cc.length ≤ _; rw [hcl]; omega))
  go_wp2_with fail
  refine HP.out.mono ?_
  rintro e1 w6 ⟨r, rfl, hr6, hb6⟩
  obtain ⟨a6, c6, hv6⟩ : ∃ a c, r = .slice a (len1 + 1) c := by
    obtain ⟨a, c, h⟩ := own_shape hr6
    rw [pend_len] at h
    exact ⟨a, c, by rw [h]; show Value.slice a cc.length c = _; rw [hcl]⟩
  subst hv6
  have K6 := hide (K5.out.below hb6)
  clear hr6 hb6 HP K5
  have HAr := hide (arm_ok K6.out.dk 0 (by omega) rfl)
  go_wp2_with fail
  refine HAr.out.mono ?_
  rintro e1 w7 ⟨rfl, hD7, hX7⟩
  have K7 := hide (K6.out.disk hD7 hX7)
  clear hD7 hX7 HAr K6
  have HFl := hide (flushE_via w7 T B C3 K7.out.tab (fun x w' => x = 42 ∧ DkA B (dwn cc (len1 + 1)) w' F5 ∧ Ext F5 w7 F5 w') ((flush_no K7.out.dk (.inr ⟨rfl, rfl⟩)).mono (by rintro e w' ⟨rfl, h1, h2⟩; exact ⟨42, rfl, rfl, h1, h2⟩)))
  go_wp2_with fail
  refine HFl.out.mono ?_
  rintro e1 w8 ⟨x8, rfl, rfl, hD8, hX8⟩
  have K8 := hide (K7.out.disk hD8 hX8)
  clear hD8 hX8 HFl K7
  have HDn := hide (down_any K8.out.dk)
  go_wp2_with fail
  refine HDn.out.mono ?_
  rintro e1 w9 ⟨rfl, rfl⟩
  clear HDn
  have K9 : Hid (∃ C, Qd w w9 B T C (dwn cc (len1 + 1)) F5 ∧ QC Z2 0 C) := hide ⟨C3, K8.out, HQ0.out⟩
  clear K8 HQ0 hho3
  simp only [show (dwn cc (len1 + 1)).down = true from rfl]
  go_upto_region 14 with fail
  go_loopw [12] (fun x wr => ∃ k : Nat, k ≤ len2 ∧ x = .int .i64 (k : Int) ∧ Hid (∃ C, Qd w wr B T C (dwn cc (len1 + 1)) F5 ∧ QC Z2 k C)) (fun x _ => len2 - (intOf x).toNat)
  case atStart => exact ⟨0, by omega, rfl, K9⟩
  case round =>
  clear K9
  obtain ⟨k, hk, rfl, KK⟩ := hrel
  by_cases hlt : k < len2
  · have hd : decide ((k : Int) < (len2 : Int)) = true := by simp; omega
    obtain ⟨C, hW, hQC⟩ := KK.out
    obtain ⟨x, rfl, hx⟩ := H2.out.below hW.bel k hlt
    have HIk : Hid (IsInts w (some x) k Z2) := hide (fun j hj => H2.out j (by omega))
    have HW := hide hW
    have HQ := hide hQC
    have e1 := low32' (Z2 k)
    have hn : ((Z2 k) % 32).toNat < 32 := by omega
    obtain ⟨n, hzn⟩ : ∃ n, ((Z2 k) % 32).toNat = n := ⟨_, rfl⟩
    rw [hzn] at e1 hn
    have HZn := hide hzn
    clear hW KK hQC hzn
    obtain ⟨z, hz⟩ : ∃ z, Z2 k = z := ⟨_, rfl⟩
    rw [hz] at e1 hx
    clear hz
    go_upto_region 17 with fail
    rw [e1]
    clear e1 hx
    obtain ⟨L, hL⟩ := low_any C
    have HC := hide (claim_any wr T (dvB B) C HW.out.tab L hL (n : Int) ((k : Int) + 10))
    clear hL
    by_cases h0 : (C n).ho = 0
    · obtain ⟨hn3, htk, hqn⟩ := HQ.out.next hn HZn.out h0 ((k : Int) + 10)
      obtain ⟨q1, q2⟩ := quS_free (C := C) (L := L) (n := n) (s := (k : Int) + 10) (by omega) hn h0
      rw [q1, q2] at HC
      have HQN := hide hqn
      have HTk := hide htk
      have h3b : ((n : Int) == 3) = false := by rw [beq_eq_false_iff_ne]; omega
      have h3c : (n == 3) = false := by simp [hn3]
      clear q1 q2 hqn htk
      go_wp2_with fail
      refine HC.out.mono ?_
      rintro e1 w10 ⟨rfl, hT10, hA10⟩
      have K10 := hide (HW.out.claim hA10 hT10)
      have HTa := hide (taken_any w10 (some x) k cap2 n Z2 (by omega) (HIk.out.below K10.out.bel))
      rw [HTk.out] at HTa
      have HSe := hide (serial_any w10 T (dvB B) _ K10.out.tab (n : Int))
      rw [isCl_nat _ hn, put_same] at HSe
      simp only [Int.toNat_natCast, put_same, Nat.one_pos, decide_true, if_true] at HSe
      have HN : Hid (∃ C, Qd w w10 B T C (dwn cc (len1 + 1)) F5 ∧ QC Z2 (k + 1) C) := hide ⟨_, K10.out, HQN.out⟩
      clear hT10 hA10 HC HW HQ
      go_wp2_with fail
      refine HTa.out.mono ?_
      rintro e1 w11 ⟨rfl, rfl⟩
      go_wp2_with fail
      refine HSe.out.mono ?_
      rintro e1 w12 ⟨rfl, rfl⟩
      go_wp2
      go_roundw
      case rel =>
        first
          | exact ⟨k + 1, by omega, by go_num, HN⟩
          | ((repeat apply Exists.intro); refine ⟨?_, rfl⟩; exact ⟨k + 1, by omega, by go_num, HN⟩)
      case measure => simp [intOf]; omega
    · have h0' : 0 < (C n).ho := by omega
      obtain ⟨q1, q2⟩ := quS_taken (C := C) (L := L) (n := n) (s := (k : Int) + 10) (by omega) hn h0'
      rw [q1, q2] at HC
      have HQN := hide (HQ.out.same hn HZn.out h0')
      have hmn : ((-1 : Int) == (n : Int)) = false := by rw [beq_eq_false_iff_ne]; omega
      clear q1 q2
      by_cases hn3 : n = 3
      · subst hn3
        go_wp2_with fail
        refine HC.out.mono ?_
        rintro e1 w10 ⟨rfl, hT10, hA10⟩
        have K10 := hide (HW.out.claim hA10 hT10)
        have HSe := hide (serial_any w10 T (dvB B) _ K10.out.tab ((3 : Nat) : Int))
        rw [isCl_nat _ hn, if_pos (by simpa using h0'), Int.toNat_natCast, HQ.out.se] at HSe
        have HN : Hid (∃ C, Qd w w10 B T C (dwn cc (len1 + 1)) F5 ∧ QC Z2 (k + 1) C) := hide ⟨_, K10.out, HQN.out⟩
        clear hT10 hA10 HC HW HQ
        go_wp2_with fail
        refine HSe.out.mono ?_
        rintro e1 w12 ⟨rfl, rfl⟩
        go_wp2
        go_roundw
        case rel =>
          first
            | exact ⟨k + 1, by omega, by go_num, HN⟩
            | ((repeat apply Exists.intro); refine ⟨?_, rfl⟩; exact ⟨k + 1, by omega, by go_num, HN⟩)
        case measure => simp [intOf]; omega
      · have h3b : ((n : Int) == 3) = false := by rw [beq_eq_false_iff_ne]; omega
        have h3c : (n == 3) = false := by simp [hn3]
        have HTk : Hid (tk Z2 k n = true) := by
          have := HQ.out.is n hn
          rw [h3c, show decide (0 < (C n).ho) = true by simp [h0']] at this
          exact hide (by simpa using this.symm)
        go_wp2_with fail
        refine HC.out.mono ?_
        rintro e1 w10 ⟨rfl, hT10, hA10⟩
        have K10 := hide (HW.out.claim hA10 hT10)
        have HTa := hide (taken_any w10 (some x) k cap2 n Z2 (by omega) (HIk.out.below K10.out.bel))
        rw [HTk.out] at HTa
        have HSe := hide (serial_any w10 T (dvB B) _ K10.out.tab (n : Int))
        rw [isCl_nat _ hn, if_pos (by simpa using h0'), Int.toNat_natCast] at HSe
        have HN : Hid (∃ C, Qd w w10 B T C (dwn cc (len1 + 1)) F5 ∧ QC Z2 (k + 1) C) := hide ⟨_, K10.out, HQN.out⟩
        clear hT10 hA10 HC HW HQ h0 h0' HQN
        generalize (C n).se = se at *
        go_wp2_with fail
        refine HTa.out.mono ?_
        rintro e1 w11 ⟨rfl, rfl⟩
        go_wp2_with fail
        refine HSe.out.mono ?_
        rintro e1 w12 ⟨rfl, rfl⟩
        go_wp2
        go_roundw
        case rel =>
          first
            | exact ⟨k + 1, by omega, by go_num, HN⟩
            | ((repeat apply Exists.intro); refine ⟨?_, rfl⟩; exact ⟨k + 1, by omega, by go_num, HN⟩)
        case measure => simp [intOf]; omega
  · obtain rfl : k = len2 := by omega
    have hd : decide ((k : Int) < (k : Int)) = false := by simp
    obtain ⟨C, hW, hQC⟩ := KK.out
    have hho := hQC.ho
    have KA := hide hW
    clear hW hQC KK
    have HR1 := hide (readE_via wr T B C KA.out.tab 3 31 127 (by omega) (by omega) (by rw [hho]; omega) rfl (fun r x w' => r = .slice none 0 0 ∧ x = 42 ∧ w' = wr) ((read_down KA.out.dk 127 (by omega) rfl).mono (by rintro e w' ⟨rfl, rfl⟩; exact ⟨_, _, rfl, rfl, rfl, rfl⟩)))
    go_wp2_with fail
    refine HR1.out.mono ?_
    rintro e1 wA ⟨r1, x1, rfl, rfl, rfl, rfl⟩
    clear HR1
    go_wp2_with fail
    refine (run_any wA 1 128 (by omega)).mono ?_
    rintro e1 wB ⟨vB, rfl, hvB, hbB⟩
    obtain ⟨aB, cB, hvv⟩ := hvB.len
    rw [List.length_replicate] at hvv
    subst hvv
    have KB := hide (KA.out.below hbB)
    clear hvB hbB KA
    have HW1 := hide (writeE_via wB T B C KB.out.tab 3 0 96 (by omega) (by omega) (by rw [hho]; omega) rfl (.slice aB 128 cB) (fun x w' => x = 42 ∧ DkA B (dwn cc (len1 + 1)) w' F5 ∧ Ext F5 wB F5 w') ((write_no KB.out.dk 96 cB aB (by omega) (.inl rfl)).mono (by rintro e w' ⟨rfl, h1, h2⟩; exact ⟨42, rfl, rfl, h1, h2⟩)))
    go_wp2_with fail
    refine HW1.out.mono ?_
    rintro e1 wC ⟨x1, rfl, rfl, hDC, hXC⟩
    have KC := hide (KB.out.disk hDC hXC)
    clear hDC hXC HW1 KB
    have HW2 := hide (writeE_via wC T B C KC.out.tab 3 0 96 (by omega) (by omega) (by rw [hho]; omega) rfl (.slice none 0 0) (fun x w' => x = 41 ∧ w' = wC) ((write_size B 96 0 0 none wC (by omega) (by omega)).mono (by rintro e w' ⟨rfl, rfl⟩; exact ⟨41, rfl, rfl, rfl⟩)))
    go_wp2_with fail
    refine HW2.out.mono ?_
    rintro e1 wD ⟨x1, rfl, rfl, rfl⟩
    clear HW2
    have hloc : (loc C 3 32).2 = 40 := by
      unfold loc
      rw [show isCl C 3 = true by rw [show (3 : Int) = ((3 : Nat) : Int) from rfl, isCl_nat C (by omega), hho]; rfl]; rfl
    have HW3 := hide (writeE_no wD T (dvB B) C KC.out.tab 3 32 (.slice none 0 0) (by rw [hloc]; decide))
    rw [hloc] at HW3
    clear hloc
    go_wp2_with fail
    refine HW3.out.mono ?_
    rintro e1 wE ⟨rfl, rfl⟩
    clear HW3
    have HHo := hide (hold_ok wE T (dvB B) C KC.out.tab 3 (by omega) 1 hho (by omega) (by omega))
    go_wp2_with fail
    refine HHo.out.mono ?_
    rintro e1 wF ⟨rfl, hTF, hAF⟩
    have KF := hide (KC.out.claim hAF hTF)
    clear hTF hAF HHo KC
    have HP := hide (pending_any KF.out.dk (by show cc.length ≤ _; rw [hcl]; omega))
    go_wp2_with fail
    refine HP.out.mono ?_
    rintro e1 wG ⟨r, rfl, hrG, hbG⟩
    obtain ⟨aG, cG, hvG⟩ : ∃ a c, r = .slice a (len1 + 1) c := by
      obtain ⟨a, c, h⟩ := own_shape hrG
      rw [pend_len] at h
      exact ⟨a, c, by rw [h]; show Value.slice a cc.length c = _; rw [hcl]⟩
    subst hvG
    have KG := hide (KF.out.below hbG)
    clear hrG hbG HP KF
    have HDn := hide (down_any KG.out.dk)
    rw [show (dwn cc (len1 + 1)).down = true from rfl] at HDn
    go_wp2_with fail
    refine HDn.out.mono ?_
    rintro e1 wH ⟨rfl, rfl⟩
    clear HDn
    go_upto_region 28 with fail
    obtain ⟨i4, hi4, hz4, hs4, hb4⟩ := info4'
    have hmk := run_make (P := Try.prog) wH 59 4 i4 (.bool false) Try.underlying59 hi4 hz4 .i64 .i64 len1 len1 (by omega) (Int.le_refl _) (by rw [hb4]; omega) (by omega)
    rw [hs4] at hmk
    obtain ⟨Zm, hZm⟩ : ∃ Z, madeCells (Value.bool false).cells ((len1 : Int).toNat * 1) = Z := ⟨_, rfl⟩
    rw [hZm] at hmk
    have HZm : Hid (RdB (wH.alloc (.cells Zm 4)) (.slice (some ⟨wH.heap.size, 0, none⟩) len1 len1) (List.replicate len1 false)) := by
      refine hide (.inr ⟨⟨wH.heap.size, 0, none⟩, len1, by simp, fun j u hu => ?_⟩)
      rw [add0, cell_of_row _ _ _ _ _ _ (heap_alloc_new wH _), ← hZm, ← Array.getElem?_toList, ← hu]
      simp [Value.cells, toList_madeCells_one]
    have HBI := hide ((Below.refl wH.heap.size wH).alloc (Nat.le_refl _) (.cells Zm 4))
    clear hZm
    generalize hCF : put C 3 ⟨(C 3).se, 1 + 1⟩ = CF at *
    clear hCF hho
    have HKc : Hid ((keptTo (kp (List.replicate len1 false ++ ks)) cc cc.length).length = if ks.getD 0 false then 1 else 0) := by
      refine hide ?_
      rw [hcl, ← HCc.out, kept_it]
      cases ks.getD 0 false <;> rfl
    have HSn : Hid (((dwn cc (len1 + 1)).up.settled (kp (List.replicate len1 false ++ ks))).seen 127 = if ks.getD 0 false then z195 else List.replicate 128 0) := hide (by rw [← HCc.out]; exact seen_it _ _ _ _)
    have HCr : Hid (∀ (W : World) (r : Value), Below wH.heap.size wH W → OwB W wH.heap.size r (List.replicate len1 false ++ ks) → Calls Try.prog 28 #[dp B, r] W fun e w' => e = .returned (.int .i64 ((if ks.getD 0 false then 1 else 0 : Nat) : Int)) ∧ ∃ D F', Qd w w' B T CF D F' ∧ D.down = false ∧ D.seen 127 = if ks.getD 0 false then z195 else List.replicate 128 0) := by
      refine hide (fun W r hb hr => ?_)
      have hq := KG.out.below hb
      refine (crash_any hq.dk r _ hr.rd (fun b hb' hf => by
        have h1 := (World.ownsRow.lt hr b hb').1
        have h2 := (good_dk _ _).lt KG.out.dk b hf
        omega)).mono ?_
      rintro e w' ⟨rfl, F', hD', hX'⟩
      refine ⟨by show Ending.returned (Value.int .i64 ((keptTo (kp (List.replicate len1 false ++ ks)) cc cc.length).length : Nat)) = _; rw [HKc.out], _, F', hq.disk hD' hX', rfl, HSn.out⟩
    clear HKc HSn HCc
    generalize hkb : ks.getD 0 false = kb at *
    generalize hkc : (if kb then 1 else 0 : Nat) = kc at *
    generalize hsn : (if kb then z195 else List.replicate 128 0) = zk at *
    have HAp : Hid (∀ (W : World) (r r2 : Value) (W2 : World), Below wH.heap.size wH W → OwB W (wH.alloc (.cells Zm 4)).heap.size r (List.replicate len1 false) → OwB W2 (wH.alloc (.cells Zm 4)).heap.size r2 (List.replicate len1 false ++ ks) → W.grownBy W2 r.ownBlock → Below wH.heap.size wH W2) := by
      refine hide (fun W r r2 W2 hb hr hr2 hg => hb.grown hg hb.size (fun j hj => ?_))
      have h1 := (World.ownsRow.lt hr j hj).1
      have h2 := HBI.out.size
      omega
    go_cut [20] (fun u wx => u = .int .i64 (kc : Int) ∧ Hid (∃ D F', Qd w wx B T CF D F' ∧ D.down = false ∧ D.seen 127 = zk))
    case first =>
      have hbs := HBI.out.size
      rcases H3.out with ⟨h3a, h3b⟩ | ⟨x3, c3, h3a, h3b⟩
      · subst h3b
        simp at h3a
        obtain ⟨rfl, rfl⟩ := h3a
        go_wp2_with fail
        refine (flags_any _ _ _ HZm.out (by simp; omega)).mono ?_
        rintro e1 wI ⟨rI, rfl, hrI, hbI⟩
        have HrI := hide hrI
        have HbI : Hid (Below wH.heap.size wH wI) := hide (HBI.out.trans (hbI.mono HBI.out.size))
        have hown : wI.ownsRow (wH.alloc (.cells Zm 4)).heap.size 4 1 rI len1 ((List.replicate len1 false).map Value.bool) := by have := hrI; unfold OwB at this; simpa using this
        clear hbI
        go_wp2_with (at_builtin; refine wpList_append_own_none rfl _ _ 59 rfl (wH.alloc (.cells Zm 4)).heap.size 4 i4 1 Try.underlying59 hi4 _ len1 _ rfl hown rfl ?_)
        refine (flags_any rI _ wI HrI.out.rd (by simp; omega)).mono ?_
        rintro e1 wJ ⟨rJ, rfl, hrJ, hbJ⟩
        have HbJ : Hid (Below wH.heap.size wH wJ) := hide (HbI.out.trans (hbJ.mono HbI.out.size))
        have HC2 := hide (HCr.out wJ rJ HbJ.out (by rw [List.append_nil]; obtain ⟨q1, ⟨q2, q3⟩ | ⟨g, cp, cur, q2, q3, q4⟩⟩ := hrJ; exact ⟨q1, .inl ⟨q2, q3⟩⟩; exact ⟨q1, .inr ⟨g, cp, cur, q2, Nat.le_trans HbI.out.size q3, q4⟩⟩))
        clear hrJ hbJ hown hrI
        go_wp2_with fail
        refine HC2.out.mono ?_
        rintro e1 wK ⟨rfl, hK⟩
        have HK := hide hK
        clear hK
        go_wp2_with fail
        go_meet
        case rel => exact ⟨rfl, HK⟩
      · cases h3a
        have H3b := hide h3b
        clear h3b
        go_wp2_with fail
        refine (flags_any _ _ _ HZm.out (by simp; omega)).mono ?_
        rintro e1 wI ⟨rI, rfl, hrI, hbI⟩
        have HrI := hide hrI
        have HbI : Hid (Below wH.heap.size wH wI) := hide (HBI.out.trans (hbI.mono HBI.out.size))
        have hsI : (wH.alloc (.cells Zm 4)).heap.size ≤ wI.heap.size := hbI.size
        have HcI : Hid (∀ j u, (ks.map Value.bool)[j]? = some u → wI.cell? (x3.add j) = some u) := hide (fun j u hu => cell_belowN (KG.out.bel.trans (HbI.out.mono KG.out.bel.size)) (H3b.out j u hu))
        have hown : wI.ownsRow (wH.alloc (.cells Zm 4)).heap.size 4 1 rI len1 ((List.replicate len1 false).map Value.bool) := by have := hrI; unfold OwB at this; simpa using this
        clear hbI
        go_wp2_with (at_builtin; refine wpList_append_own _ rfl _ _ 59 rfl (wH.alloc (.cells Zm 4)).heap.size 4 i4 (.bool false) 1 1 Try.underlying59 hi4 hz4 hs4 hb4 rfl (by decide) _ len1 _ rfl hown x3 ks.length cap3 (ks.map Value.bool) rfl (by simp) HcI.out (bool_one ks) (by unfold maxLen; omega) (by omega) hsI ?_; intro rM wM hownM hgM _)
        have HrM : Hid (OwB wM (wH.alloc (.cells Zm 4)).heap.size rM (List.replicate len1 false ++ ks)) := by
          refine hide ?_
          unfold OwB
          rw [List.map_append, List.length_append, List.length_replicate]
          exact hownM
        have HbM := hide (HAp.out wI rI rM wM HbI.out HrI.out HrM.out hgM)
        clear hownM hgM hown hrI
        refine (flags_any rM _ wM HrM.out.rd (by simp; omega)).mono ?_
        rintro e1 wJ ⟨rJ, rfl, hrJ, hbJ⟩
        have HbJ : Hid (Below wH.heap.size wH wJ) := hide (HbM.out.trans (hbJ.mono HbM.out.size))
        have HC2 := hide (HCr.out wJ rJ HbJ.out (by obtain ⟨q1, ⟨q2, q3⟩ | ⟨g, cp, cur, q2, q3, q4⟩⟩ := hrJ; exact ⟨q1, .inl ⟨q2, q3⟩⟩; exact ⟨q1, .inr ⟨g, cp, cur, q2, Nat.le_trans HbM.out.size q3, q4⟩⟩))
        clear hrJ hbJ
        go_wp2_with fail
        refine HC2.out.mono ?_
        rintro e1 wK ⟨rfl, hK⟩
        have HK := hide hK
        clear hK
        go_wp2_with fail
        go_meet
        case rel => exact ⟨rfl, HK⟩
    case rest =>
    obtain ⟨rfl, KR⟩ := hcut
    clear HCr HAp HZm HBI hmk KG
    obtain ⟨D, F', hQ, hdn, hsD⟩ := KR.out
    have HQ := hide hQ
    have HdD := hide (And.intro hdn hsD)
    clear hQ hdn hsD KR
    go_wp2_with fail
    refine (newE_any wc B).mono ?_
    rintro e1 wL ⟨rfl, hTL, hbL⟩
    have KL : Hid (Qd w wL B wc.heap.size (fun _ => Cl.zero) D F') := by
      have hlt := (good_dk _ _).lt HQ.out.dk
      exact hide ⟨(good_dk _ _).below HQ.out.dk hbL, hTL, fun hf => by have := hlt _ hf; omega, HQ.out.lF, HQ.out.bel.size, HQ.out.bel.trans (hbL.mono HQ.out.bel.size)⟩
    clear hTL hbL HQ
    generalize wc.heap.size = T2 at *
    have HLs := hide (list_any wL T2 (dvB B) _ KL.out.tab)
    rw [show cld (fun _ => Cl.zero) 32 = [] from rfl] at HLs
    go_wp2_with fail
    refine HLs.out.mono ?_
    rintro e1 wM ⟨vM, rfl, hrM, hbM⟩
    obtain ⟨aM, cM, rfl⟩ := own_shape hrM
    have KM := hide (KL.out.below hbM)
    clear hrM hbM HLs KL
    simp only [List.length_nil]
    obtain ⟨L2, hL2⟩ := low_any (fun _ => Cl.zero)
    have hq2 := quS_free (C := fun _ => Cl.zero) (L := L2) (n := 3) (s := 11) (by omega) (by omega) rfl
    have HC2 := hide (claim_any wM T2 (dvB B) _ KM.out.tab L2 hL2 3 11)
    rw [show (3 : Int) = ((3 : Nat) : Int) from rfl, hq2.1, hq2.2] at HC2
    clear hL2 hq2
    go_wp2_with fail
    refine HC2.out.mono ?_
    rintro e1 wN ⟨rfl, hTN, hAN⟩
    have KN := hide (KM.out.claim hAN hTN)
    clear hTN hAN HC2 KM
    have HRe := hide (readE_ok KN.out.tab KN.out.dk 3 31 (by omega) (by omega) (by decide) HdD.out.1)
    rw [show 3 * 32 + 31 = 127 from rfl, HdD.out.2] at HRe
    go_wp2_with fail
    refine HRe.out.mono ?_
    rintro e1 wP ⟨rP, rfl, hrP, hbP⟩
    have HrP := hide hrP
    have HBP := hide (KN.out.bel.trans (hbP.mono KN.out.bel.size))
    have HKS : Hid (∀ b, ks[0]? = some b → ∃ x, a3 = some x ∧ wP.cell? x = some (.bool b)) := hide (fun b hb => by
      obtain ⟨x, h1, h2⟩ := H3.out.first hb
      exact ⟨x, h1, cell_belowN HBP.out h2⟩)
    clear hrP hbP HRe KN
    cases ks with
    | nil =>
      obtain rfl : kb = false := hkb.symm
      obtain rfl : kc = 0 := hkc.symm
      obtain rfl : zk = List.replicate 128 0 := hsn.symm
      clear hkb hkc hsn
      simp only [List.length_nil]
      go_wp2_with fail
      refine (run_any wP 195 128 (by omega)).mono ?_
      rintro e1 wQ ⟨vQ, rfl, hvQ, hbQ⟩
      have HBQ := hide (HBP.out.trans (hbQ.mono HBP.out.size))
      have HrQ := hide (HrP.out.below hbQ (Nat.le_refl _))
      have HvQ := hide hvQ
      clear hvQ hbQ
      have HSm := hide (same_ne rP vQ _ _ wQ HrQ.out.rd HvQ.out.rd strs_ne)
      go_wp2_with fail
      refine HSm.out.mono ?_
      rintro e1 wR ⟨rfl, rfl⟩
      go_wp2_with fail
      refine (run_any wR 0 128 (by omega)).mono ?_
      rintro e1 wS ⟨vS, rfl, hvS, hbS⟩
      have HBS := hide (HBQ.out.trans (hbS.mono HBQ.out.size))
      have HSm2 := hide (same_eq rP vS _ wS (HrQ.out.below hbS (Nat.le_refl _)).rd hvS.rd)
      clear hvS hbS
      go_wp2_with fail
      refine HSm2.out.mono ?_
      rintro e1 wT ⟨rfl, rfl⟩
      go_wp2
      go_ret
      exact ⟨rfl, HBS.out⟩
    | cons b0 ks' =>
      obtain ⟨x3, rfl, hx3⟩ := HKS.out b0 rfl
      have hln : (0 : Int) < ((b0 :: ks').length : Nat) := by simp
      obtain ⟨ln, hl9⟩ : ∃ ln, (b0 :: ks').length = ln := ⟨_, rfl⟩
      rw [hl9] at hln ⊢
      have hdl : decide (0 < ln) = true := by simp; omega
      obtain rfl : kb = b0 := hkb.symm
      clear hkb hl9 HKS H3
      cases kb
      · obtain rfl : kc = 0 := hkc.symm
        obtain rfl : zk = List.replicate 128 0 := hsn.symm
        clear hkc hsn
        go_wp2_with fail
        refine (run_any wP 195 128 (by omega)).mono ?_
        rintro e1 wQ ⟨vQ, rfl, hvQ, hbQ⟩
        have HBQ := hide (HBP.out.trans (hbQ.mono HBP.out.size))
        have HrQ := hide (HrP.out.below hbQ (Nat.le_refl _))
        have HvQ := hide hvQ
        clear hvQ hbQ
        have HSm := hide (same_ne rP vQ _ _ wQ HrQ.out.rd HvQ.out.rd strs_ne)
        go_wp2_with fail
        refine HSm.out.mono ?_
        rintro e1 wR ⟨rfl, rfl⟩
        go_wp2_with fail
        refine (run_any wR 0 128 (by omega)).mono ?_
        rintro e1 wS ⟨vS, rfl, hvS, hbS⟩
        have HBS := hide (HBQ.out.trans (hbS.mono HBQ.out.size))
        have HSm2 := hide (same_eq rP vS _ wS (HrQ.out.below hbS (Nat.le_refl _)).rd hvS.rd)
        clear hvS hbS
        go_wp2_with fail
        refine HSm2.out.mono ?_
        rintro e1 wT ⟨rfl, rfl⟩
        go_wp2
        go_ret
        exact ⟨rfl, HBS.out⟩
      · obtain rfl : kc = 1 := hkc.symm
        obtain rfl : zk = z195 := hsn.symm
        clear hkc hsn
        go_wp2_with fail
        refine (run_any wP 195 128 (by omega)).mono ?_
        rintro e1 wQ ⟨vQ, rfl, hvQ, hbQ⟩
        have HBQ := hide (HBP.out.trans (hbQ.mono HBP.out.size))
        have HrQ := hide (HrP.out.below hbQ (Nat.le_refl _))
        have HvQ := hide hvQ
        clear hvQ hbQ
        have HSm := hide (same_eq rP vQ z195 wQ HrQ.out.rd HvQ.out.rd)
        go_wp2_with fail
        refine HSm.out.mono ?_
        rintro e1 wR ⟨rfl, rfl⟩
        go_wp2
        go_ret
        exact ⟨rfl, HBQ.out⟩
end Go.Proofs.Ytogpgchfaalikaa
