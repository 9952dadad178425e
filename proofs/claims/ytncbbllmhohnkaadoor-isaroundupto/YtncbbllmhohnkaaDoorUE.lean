import Derived.Test.YtncbbllmhohnkaaDoorUC
import Derived.Test.YtncbbllmhohnkaaDoorUD
import Derived.Test.YtncbbllmhohnkaaDoorI3
import Derived.Deep.Cut
import Derived.Deep.DeepCutAuto
import Derived.WalkSmall
import Derived.BigQuiet
import Derived.WalkMore
namespace Go.Proofs.YtncbbllmhohnkaaDoor
open Go.RowKit
theorem mk_size (l : Tx) : (⟨l.toArray⟩ : ByteArray).size = l.length := by simp [ByteArray.size]
theorem mk_get (l : Tx) (j : Nat) (h : j < (⟨l.toArray⟩ : ByteArray).size) : (⟨l.toArray⟩ : ByteArray)[j]'h = l[j]'(by rw [mk_size] at h; exact h) := by
  show l.toArray[j]'_ = _
  simp
set_option maxRecDepth 4000 in
theorem enc_hi {r : Nat} (h0 : 128 ≤ r) (h1 : r ≤ 1114111) (hv : r < 55296 ∨ 57343 < r) : ∃ rs : Tx, Utf8.encode (r : Int) = ⟨rs.toArray⟩ ∧ 2 ≤ rs.length ∧ rs.length ≤ 4 ∧ ∀ (h : 1 < rs.length), rs.length = 2 → 128 ≤ (rs[1]'h).toNat := by
  have hval : Utf8.valid (r : Int) = true := by
    unfold Utf8.valid
    simp only [Bool.or_eq_true, Bool.and_eq_true, decide_eq_true_eq]
    omega
  have n1 : ¬ r < 128 := by omega
  by_cases h2 : r < 2048
  · refine ⟨[UInt8.ofNat (192 + r / 64), UInt8.ofNat (128 + r % 64)], by simp [Utf8.encode, hval, n1, h2], by simp, by simp, fun h _ => ?_⟩
    show 128 ≤ (UInt8.ofNat (128 + r % 64)).toNat
    simp
    omega
  · by_cases h3 : r < 65536
    · exact ⟨[UInt8.ofNat (224 + r / 4096), UInt8.ofNat (128 + r / 64 % 64), UInt8.ofNat (128 + r % 64)], by simp [Utf8.encode, hval, n1, h2, h3], by simp, by simp, fun h e => by simp at e⟩
    · exact ⟨[UInt8.ofNat (240 + r / 262144), UInt8.ofNat (128 + r / 4096 % 64), UInt8.ofNat (128 + r / 64 % 64), UInt8.ofNat (128 + r % 64)], by simp [Utf8.encode, hval, n1, h2, h3], by simp, by simp, fun h e => by simp at e⟩
/-- a step of a walk over a text: an ASCII letter, or something beyond ASCII as a whole -/
theorem it_step {P : Program} {wr : World} {g : Nat} {l : Tx} {pos : Nat} (hI : It wr g ⟨l.toArray⟩ pos) (hp : pos < l.length) :
    ∃ c q : Nat, (∀ ty, (Instr.next (.pointer (some ⟨g, 0, none⟩)) true ty).run P wr = .ok (.tuple #[.bool true, .int .i64 pos, .int .i32 (c : Nat)]) (World.itTo wr g ⟨l.toArray⟩ q)) ∧ pos < q ∧ q ≤ l.length ∧
      ((c < 128 ∧ c = (l[pos]'hp).toNat ∧ q = pos + 1) ∨ (128 ≤ c ∧ c ≤ 1114111 ∧ ∀ j (hj : j < l.length), pos ≤ j → j < q → 128 ≤ (l[j]'hj).toNat)) := by
  have hp' : pos < (⟨l.toArray⟩ : ByteArray).size := by rw [mk_size]; exact hp
  by_cases ha : (l[pos]'hp).toNat < 128
  · have hd := decode_ascii ⟨l.toArray⟩ pos hp' (by rw [mk_get]; exact ha)
    rw [mk_get] at hd
    refine ⟨(l[pos]'hp).toNat, pos + 1, fun ty => ?_, by omega, by omega, .inl ⟨ha, rfl, rfl⟩⟩
    rw [it_next hI ty hp', hd]
  · obtain ⟨h1, h2, h3, h4, h5⟩ := dec_hi ⟨l.toArray⟩ pos hp' (by rw [mk_get]; exact ha)
    rw [mk_size] at h4
    refine ⟨(Utf8.decode ⟨l.toArray⟩ pos).1, pos + (Utf8.decode ⟨l.toArray⟩ pos).2, fun ty => it_next hI ty hp', by omega, h4, .inr ⟨h1, h2, fun j hj h6 h7 => ?_⟩⟩
    obtain ⟨k, hk⟩ := h5 (j - pos) (by omega)
    rw [mk_get] at hk
    have e : pos + (j - pos) = j := by omega
    simp only [e] at hk
    omega
theorem it_stop {P : Program} {wr : World} {g : Nat} {l : Tx} {pos : Nat} (hI : It wr g ⟨l.toArray⟩ pos) (hp : ¬ pos < l.length) (ty : TypeId) :
    (Instr.next (.pointer (some ⟨g, 0, none⟩)) true ty).run P wr = .ok (.tuple #[.bool false]) wr := it_end hI ty (by rw [mk_size]; exact hp)
theorem idx_none (c : Int) (w : World) : Calls Tryd.prog 97 #[.string ByteArray.empty, .int .u8 c] w fun e w' => e = .returned (.int .i64 (-1)) ∧ w' = w := Tryd.idxByte [] c w
section
variable (w : World)
set_option maxRecDepth 100000 in
set_option maxHeartbeats 2000000 in
/-- a rune beyond ASCII in a text of at most two ASCII letters -/
theorem idx_hi (l : Tx) (hl : l.length ≤ 2) (ha : ∀ c ∈ l, c.toNat < 128) (r : Nat) (h0 : 128 ≤ r) (h1 : r ≤ 1114111) : Calls Tryd.prog 88 #[.string ⟨l.toArray⟩, .int .i32 (r : Int)] w fun e w' => e = .returned (.int .i64 (-1)) ∧ Below w.heap.size w w' := by
  have n1 : ¬ (r : Int) < 128 := by omega
  by_cases he : r = 65533
  · subst he
    go_enter Tryd.func88, Tryd.ntmps88
    go_upto_region 38 with fail
    go_loopw [4] (fun u wr => ∃ pos : Nat, u = .int .i64 0 ∧ pos ≤ l.length ∧ It wr w.heap.size ⟨l.toArray⟩ pos ∧ Below w.heap.size w wr) (fun _ wr => l.length - itPos wr w.heap.size)
    case atStart => exact ⟨0, rfl, by omega, heap_alloc_last _ _, bel1 _ _⟩
    case round =>
    obtain ⟨pos, rfl, hp, hI, hB⟩ := hrel
    by_cases hlt : pos < l.length
    · obtain ⟨c, q, nx, hq, hql, hc⟩ := it_step (P := Tryd.prog) hI hlt
      have hc2 : (c : Int) < 128 := by
        rcases hc with ⟨h, _⟩ | ⟨_, _, h⟩
        · omega
        · have h2 := h pos hlt (Nat.le_refl _) hq
          have h3 := ha _ (List.getElem_mem hlt)
          omega
      have HI := hide (it_to hI q)
      have HB := hide (it_below (s := ⟨l.toArray⟩) hB (Nat.le_refl _) q)
      have HP := hide (it_pos hI)
      clear hc hI hB
      go_wp2
      refine ⟨⟨q, rfl, hql, HI.out, HB.out⟩, ?_⟩
      rw [it_pos HI.out, HP.out]
      omega
    · have nx := it_stop (P := Tryd.prog) hI hlt
      have HB := hide hB
      clear hI hB
      go_wp2
      go_ret
      exact ⟨rfl, HB.out⟩
  · have ne : ¬ (r : Int) = 65533 := by omega
    by_cases hv : r < 55296 ∨ 57343 < r
    · have HE := hide (enc_hi h0 h1 hv)
      have hvd : decide (0 ≤ (r : Int) ∧ (r : Int) < 55296 ∨ 57343 < (r : Int) ∧ (r : Int) ≤ 1114111) = true := by simp; omega
      have hV := Tryd.validR (r : Int) w
      rw [hvd] at hV
      have HV := hide hV
      have H1 := hide h1
      have HL := hide hl
      have HA := hide ha
      clear hvd hv h0 h1 he hV ha hl
      go_enter Tryd.func88, Tryd.ntmps88
      go_wp2_with fail
      refine HV.out.mono ?_
      rintro e w1 ⟨rfl, rfl⟩
      clear HV
      obtain ⟨rs, ers, hr2, hr4, hr1⟩ := HE.out
      have HR1 := hide hr1
      clear hr1 HE
      go_upto_region 1 with fail
      go_step3
      go_upto_region 5 with fail
      go_loopw [9] (fun u wr => u = .int .i64 ((rs.length : Int) - 1) ∧ wr = w1) (fun _ _ => 0)
      case atStart => exact ⟨rfl, rfl⟩
      case round =>
      obtain ⟨rfl, rfl⟩ := hrel
      by_cases hlt : (rs.length : Int) - 1 < (l.length : Int)
      · have hl := HL.out
        have e2 : rs.length = 2 := by omega
        have el : l.length = 2 := by omega
        match l, el with
        | [x, y], _ =>
        match rs, e2 with
        | [x', y'], _ =>
        have hy : ¬ y = y' := fun e => by
          have h3 := HR1.out (by simp) rfl
          have h4 := HA.out y (by simp)
          simp at h3
          rw [← e] at h3
          omega
        clear hr2 hr4 ers HL HR1 HA hl hlt e2 el
        have hx1 : ∀ h, (⟨#[x, y]⟩ : ByteArray)[1]'h = y := fun _ => rfl
        have hx2 : ∀ h, (⟨#[x', y']⟩ : ByteArray)[1]'h = y' := fun _ => rfl
        have hy2 : ¬ y.toNat = y'.toNat := fun e => hy (UInt8.toNat_inj.1 e)
        have hy3 : ((y.toNat : Int) != (y'.toNat : Int)) = true := by simp only [bne_iff_ne, ne_eq]; omega
        clear hy hy2
        go_upto_region 6 with fail
        go_step3
        go_upto_region 6 with fail
        go_region
        go_upto_region 7 with fail
        have HD : Hid (Below wr.heap.size wr wr.drew) := hide ⟨rfl, rfl, rfl, Nat.le_refl _, fun _ _ => rfl⟩
        generalize wr.drew = w9 at *
        go_quiet (first | (go_at_call 97; refine Calls.quiet_of_same (idx_none _ _)))
        go_wp2
        rw [Exit.noGoto_ret]
        go_wp2
        rw [Exit.noGoto_ret]
        go_wp2
        go_ret
        exact ⟨rfl, HD.out.trans ⟨rfl, rfl, rfl, Nat.le_refl _, fun _ _ => rfl⟩⟩
      · go_wp2
        go_ret
        exact ⟨rfl, Below.refl _ _⟩
    · have hvd : decide (0 ≤ (r : Int) ∧ (r : Int) < 55296 ∨ 57343 < (r : Int) ∧ (r : Int) ≤ 1114111) = false := by simp; omega
      have hV := Tryd.validR (r : Int) w
      rw [hvd] at hV
      have HV := hide hV
      have H1 := hide h1
      have HL := hide hl
      have HA := hide ha
      clear hvd hv h0 h1 he hV ha hl
      go_enter Tryd.func88, Tryd.ntmps88
      go_wp2_with fail
      refine HV.out.mono ?_
      rintro e w1 ⟨rfl, rfl⟩
      clear HV
      go_wp2
      go_ret
      exact ⟨rfl, Below.refl _ _⟩
theorem idx_ascii (l : Tx) (c : Nat) : decide (0 ≤ Lib.indexByte l ((c : Nat) : Int).toNat.toUInt8) = l.contains (UInt8.ofNat c) := by
  have e : ((c : Nat) : Int).toNat.toUInt8 = UInt8.ofNat c := by simp [Nat.toUInt8]
  rw [e]
  have key : ∀ l : Tx, (l.contains (UInt8.ofNat c) = true → 0 ≤ Lib.indexByte l (UInt8.ofNat c)) ∧ (l.contains (UInt8.ofNat c) = false → Lib.indexByte l (UInt8.ofNat c) = -1) := by
    intro l
    induction l with
    | nil => simp [Lib.indexByte]
    | cons x r ih =>
      simp only [Lib.indexByte]
      by_cases hx : x = UInt8.ofNat c
      · subst hx; simp
      · have h1 : (x == UInt8.ofNat c) = false := by simpa using hx
        have h2 : (UInt8.ofNat c == x) = false := by simpa using fun e => hx e.symm
        simp only [h1, Bool.false_eq_true, if_false, List.contains_cons, h2, Bool.false_or]
        refine ⟨fun h => ?_, fun h => ?_⟩
        · have := ih.1 h
          split
          · next e => simp at e; omega
          · omega
        · rw [ih.2 h]; rfl
  cases h : l.contains (UInt8.ofNat c) with
  | true => simpa using (key l).1 h
  | false => rw [(key l).2 h]; rfl
theorem cont_any (l : Tx) (hl : l.length ≤ 2) (ha : ∀ c ∈ l, c.toNat < 128) (c : Nat) (h1 : c ≤ 1114111) : Calls Tryd.prog 70 #[.string ⟨l.toArray⟩, .int .i32 (c : Int)] w fun e w' => e = .returned (.bool (decide (c < 128) && l.contains (UInt8.ofNat c))) ∧ Below w.heap.size w w' := by
  by_cases hc : c < 128
  · refine (Tryd.contAscii l (c : Int) w (by omega) (by omega)).mono ?_
    rintro e w1 ⟨rfl, rfl⟩
    exact ⟨by rw [idx_ascii l c]; simp [hc], Below.refl _ _⟩
  · have HI := hide (idx_hi w l hl ha c (by omega) h1)
    have HC : Hid ((decide (c < 128) && l.contains (UInt8.ofNat c)) = false) := hide (by simp [hc])
    clear h1 hl ha hc
    go_enter Tryd.func70, Tryd.ntmps70
    go_wp2_with fail
    refine HI.out.mono ?_
    rintro e w1 ⟨rfl, hb⟩
    go_wp2
    go_ret
    exact ⟨by rw [HC.out]; rfl, hb⟩
end
end Go.Proofs.YtncbbllmhohnkaaDoor
