import Derived.Test.YtnpklhjndominaaQF
import Derived.Test.YtnpklhjndominaaQG
namespace Go.Proofs.Ytnpklhjndominaa
open Go.RowKit

theorem star_fst2 {A B C : Asn} (h : ∀ W H, A W H → B W H) {W : World} {H : Nat → Prop} (hh : star A C W H) : star B C W H := star_comm (star_mono h (star_comm hh))
set_option maxRecDepth 100000 in
set_option maxHeartbeats 6400000 in
theorem played_flush {w0 w : World} {B R n : Nat} {Rst : Asn} (hS : Sys w0 w (star (PrA B R n) Rst)) (hG : Good Rst) (hn : n ≤ 1048577) (o : Opr) (ho : OpIn w0 o) (hkd : o.kind = 3) :
    Calls Try.prog 10 #[dp B, tp R, opv o] w fun e w' => e = .returned (.bool true) ∧ Sys w0 w' (star (PrA B R (n + 1)) Rst) := by
  have hgA0 : Good (star (PrA B R n) Rst) := (good_pr B R n).star hG
  have S0 := (hS.box hgA0 o).swap
  obtain ⟨D, N, S1, hb1, hb2⟩ := S0.open
  have hgX : Good (star (BoxA w.heap.size o) Rst) := (good_box _ _).star hG
  have hOk : D.Ok := by obtain ⟨F1, h1⟩ := S1.head; exact h1.ok
  obtain ⟨ad, cd, hdd⟩ := ho.rd.len
  obtain ⟨ak, ck, hkk⟩ := ho.rb.len
  have HOk := hide hOk
  have HO := hide ho
  have HG := hide hG
  have HGX := hide hgX
  have HB := hide (And.intro hb1 hb2)
  have hNb : N ≤ 2000000 := by omega
  have hcb : D.c.length ≤ 2000000 := by omega
  have hab : D.acts < 100000000 := by omega
  obtain ⟨kind, two, sec, at', data, zs, fill, keep, ks⟩ := o
  simp only at hdd hkk S1 S0 hkd
  subst hdd hkk
  have HS0 := hide S0
  have HS1 := hide S1
  have C1 := S1.cells2
  have c0 := C1.c0
  have h2 : (kind == 2) = false := by rw [beq_eq_false_iff_ne]; rw [hkd]; decide
  have h3 : (kind == 3) = true := by simp [hkd]
  simp only at c0 
  clear hS hgA0 hOk ho hG hgX S0 S1 C1 hb1 hb2 hkd
  go_enter Try.func10, Try.ntmps10
  go_upto_region 2 with fail
  generalize w.alloc (.cells #[.int .i64 kind, .bool two, .int .i64 sec, .int .i64 at', .slice ad zs.length cd, .bool fill, .slice ak ks.length ck] 30) = w1 at *
  generalize w.heap.size = G at *
  obtain ⟨F1, hd, _, hcl⟩ := HS1.out.call ((good_rk R D N).star HGX.out)
  have HP := hide (flsP hd (by omega))
  have HC := hide hcl
  clear hd hcl c0
  go_wp2_with fail
  refine HP.out.mono ?_
  rintro e w2 ⟨rfl, F2, hd2, hx2⟩
  have HS2 := hide (HC.out _ _ _ hd2 hx2).swap
  obtain ⟨F3, hr, _, hcl⟩ := HS2.out.call ((good_dk B D.fls.2).star HGX.out)
  have HR := hide (flsR hr HOk.out (by omega) (by omega) (by omega))
  have HC2 := hide hcl
  clear hr hcl hd2 hx2 HP HC
  go_wp2_with fail
  refine HR.out.mono ?_
  rintro e w3 ⟨rfl, F4, N', hr3, hx3, hnn⟩
  have HS3 := hide (HC2.out _ _ _ hr3 hx3).swap
  have HE := hide (HS3.out.fin D.near_fls HB.out.1 HB.out.2 hnn)
  clear hr3 hx3 hnn HR HC2
  generalize D.fls.1 = cc at *
  go_wp2
  go_ret
  exact ⟨rfl, HE.out⟩
set_option maxRecDepth 100000 in
set_option maxHeartbeats 6400000 in
theorem played_arm {w0 w : World} {B R n : Nat} {Rst : Asn} (hS : Sys w0 w (star (PrA B R n) Rst)) (hG : Good Rst) (hn : n ≤ 1048577) (o : Opr) (ho : OpIn w0 o) (hkd : o.kind = 5) :
    Calls Try.prog 10 #[dp B, tp R, opv o] w fun e w' => e = .returned (.bool true) ∧ Sys w0 w' (star (PrA B R (n + 1)) Rst) := by
  have hgA0 : Good (star (PrA B R n) Rst) := (good_pr B R n).star hG
  have S0 := (hS.box hgA0 o).swap
  obtain ⟨D, N, S1, hb1, hb2⟩ := S0.open
  have hgX : Good (star (BoxA w.heap.size o) Rst) := (good_box _ _).star hG
  have hOk : D.Ok := by obtain ⟨F1, h1⟩ := S1.head; exact h1.ok
  obtain ⟨ad, cd, hdd⟩ := ho.rd.len
  obtain ⟨ak, ck, hkk⟩ := ho.rb.len
  have HOk := hide hOk
  have HO := hide ho
  have HG := hide hG
  have HGX := hide hgX
  have HB := hide (And.intro hb1 hb2)
  have hNb : N ≤ 2000000 := by omega
  have hcb : D.c.length ≤ 2000000 := by omega
  have hab : D.acts < 100000000 := by omega
  obtain ⟨kind, two, sec, at', data, zs, fill, keep, ks⟩ := o
  simp only at hdd hkk S1 S0 hkd
  subst hdd hkk
  have HS0 := hide S0
  have HS1 := hide S1
  have C1 := S1.cells2
  have c0 := C1.c0
  have h2 : (kind == 2) = false := by rw [beq_eq_false_iff_ne]; rw [hkd]; decide
  have h3 : (kind == 3) = false := by rw [beq_eq_false_iff_ne]; rw [hkd]; decide
  have h5 : (kind == 5) = true := by simp [hkd]
  have c3 := C1.c3
  simp only at c0 c3
  clear hS hgA0 hOk ho hG hgX S0 S1 C1 hb1 hb2 hkd
  go_enter Try.func10, Try.ntmps10
  go_upto_region 2 with fail
  generalize w.alloc (.cells #[.int .i64 kind, .bool two, .int .i64 sec, .int .i64 at', .slice ad zs.length cd, .bool fill, .slice ak ks.length ck] 30) = w1 at *
  generalize w.heap.size = G at *
  have ha1 : at' ≤ 9223372036854775807 := HO.out.a1.2
  obtain ⟨F1, hd, _, hcl⟩ := HS1.out.call ((good_rk R D N).star HGX.out)
  have HP := hide (amdP hd at' ha1)
  have HC := hide hcl
  clear hd hcl c0
  go_wp2_with fail
  refine HP.out.mono ?_
  rintro e w2 ⟨rfl, F2, hd2, hx2⟩
  have HS2 := hide (HC.out _ _ _ hd2 hx2).swap
  obtain ⟨F3, hr, _, hcl⟩ := HS2.out.call ((good_dk B (D.amd at').2).star HGX.out)
  have HR := hide (amdR hr at' ha1)
  have HC2 := hide hcl
  have c3' := HS2.out.cells2.c3
  simp only at c3'
  clear hr hcl hd2 hx2 HP HC c3
  go_wp2_with fail
  refine HR.out.mono ?_
  rintro e w3 ⟨rfl, F4, N', hr3, hx3, hnn⟩
  have HS3 := hide (HC2.out _ _ _ hr3 hx3).swap
  have HE := hide (HS3.out.fin (D.near_amd at') HB.out.1 HB.out.2 hnn)
  clear hr3 hx3 hnn HR HC2 c3'
  generalize (D.amd at').1 = cc at *
  go_wp2
  go_ret
  exact ⟨rfl, HE.out⟩
set_option maxRecDepth 100000 in
set_option maxHeartbeats 6400000 in
theorem played_rest {w0 w : World} {B R n : Nat} {Rst : Asn} (hS : Sys w0 w (star (PrA B R n) Rst)) (hG : Good Rst) (hn : n ≤ 1048577) (o : Opr) (ho : OpIn w0 o) (hkd : o.kind ≠ 2 ∧ o.kind ≠ 3 ∧ o.kind ≠ 5 ∧ o.kind ≠ 7 ∧ o.kind ≠ 8) :
    Calls Try.prog 10 #[dp B, tp R, opv o] w fun e w' => e = .returned (.bool true) ∧ Sys w0 w' (star (PrA B R (n + 1)) Rst) := by
  have hgA0 : Good (star (PrA B R n) Rst) := (good_pr B R n).star hG
  have S0 := (hS.box hgA0 o).swap
  obtain ⟨D, N, S1, hb1, hb2⟩ := S0.open
  have hgX : Good (star (BoxA w.heap.size o) Rst) := (good_box _ _).star hG
  have hOk : D.Ok := by obtain ⟨F1, h1⟩ := S1.head; exact h1.ok
  obtain ⟨ad, cd, hdd⟩ := ho.rd.len
  obtain ⟨ak, ck, hkk⟩ := ho.rb.len
  have HOk := hide hOk
  have HO := hide ho
  have HG := hide hG
  have HGX := hide hgX
  have HB := hide (And.intro hb1 hb2)
  have hNb : N ≤ 2000000 := by omega
  have hcb : D.c.length ≤ 2000000 := by omega
  have hab : D.acts < 100000000 := by omega
  obtain ⟨kind, two, sec, at', data, zs, fill, keep, ks⟩ := o
  simp only at hdd hkk S1 S0 hkd
  subst hdd hkk
  have HS0 := hide S0
  have HS1 := hide S1
  have C1 := S1.cells2
  have c0 := C1.c0
  have h2 : (kind == 2) = false := by rw [beq_eq_false_iff_ne]; exact hkd.1
  have h3 : (kind == 3) = false := by rw [beq_eq_false_iff_ne]; exact hkd.2.1
  have h5 : (kind == 5) = false := by rw [beq_eq_false_iff_ne]; exact hkd.2.2.1
  have h7 : (kind == 7) = false := by rw [beq_eq_false_iff_ne]; exact hkd.2.2.2.1
  have h8 : (kind == 8) = false := by rw [beq_eq_false_iff_ne]; exact hkd.2.2.2.2
  have c1 := C1.c1
  have c2 := C1.c2
  have c3 := C1.c3
  have c4 := C1.c4
  have c5 := C1.c5
  have c6 := C1.c6
  simp only at c0 c1 c2 c3 c4 c5 c6
  clear hS hgA0 hOk ho hG hgX S0 S1 C1 hb1 hb2 hkd
  go_enter Try.func10, Try.ntmps10
  go_upto_region 2 with fail
  generalize w.alloc (.cells #[.int .i64 kind, .bool two, .int .i64 sec, .int .i64 at', .slice ad zs.length cd, .bool fill, .slice ak ks.length ck] 30) = w1 at *
  generalize w.heap.size = G at *
  have HQ := hide (asked_any HS0.out HGX.out (by omega) _ HO.out)
  go_wp2_with fail
  refine HQ.out.mono ?_
  rintro e w2 ⟨rfl, hs2⟩
  have HE : Hid (Sys w0 w2 (star (PrA B R (n + 1)) Rst)) := hide (hs2.swap.drop.mono (fun W H h => star_fst2 (fun _ _ => PrA.more) h))
  clear hs2
  go_wp2
  go_ret
  exact ⟨rfl, HE.out⟩
end Go.Proofs.Ytnpklhjndominaa
