import Derived.Deep.RegionHeld
import Derived.Test.YtiafodeabdhcoaaGreatDoorM16
namespace Go.Proofs.YtiafodeabdhcoaaGreatDoor
open Go.RowKit
theorem truT_le (b : Bool) : truT b ≤ 4294967295 := by cases b <;> decide
theorem ite_le {p : Prop} [Decidable p] {a b c : Nat} (ha : a ≤ c) (hb : b ≤ c) : (if p then a else b) ≤ c := by split; exact ha; exact hb
theorem apV_le {op : Tx} {l r : Nat} (hl : l ≤ 4294967295) (hr : r ≤ 4294967295) : apV op l r ≤ 4294967295 := by
  have h1 : l < 2 ^ 32 := by omega
  have h2 : r < 2 ^ 32 := by omega
  unfold apV
  repeat' refine ite_le ?_ ?_
  all_goals first
    | exact truT_le _
    | exact Nat.zero_le _
    | omega
    | exact Nat.le_trans (Nat.div_le_self _ _) hl
    | exact Nat.le_trans (Nat.mod_le _ _) hl
    | exact Nat.le_of_lt_succ (Nat.or_lt_two_pow h1 h2)
    | exact Nat.le_of_lt_succ (Nat.xor_lt_two_pow h1 h2)
    | exact Nat.le_of_lt_succ (Nat.and_lt_two_pow _ h2)
theorem sgV_le {op : Tx} {v : Nat} : sgV op v ≤ 4294967295 := by
  unfold sgV
  split
  · omega
  · split
    · omega
    · exact truT_le _
theorem word_le {d : Nat} {m : Mc} (h : Mok d m) (k : Nat) : m.word k ≤ 4294967295 := by
  unfold Mc.word
  rw [List.getD_eq_getElem?_getD]
  cases hq : m.words[k]? with
  | none => exact Nat.zero_le _
  | some x => exact h.wb x (List.mem_of_getElem? hq)
/-- an expression's machine is one again, and its value a word -/
def MxK (f : Mc → Nat × Mc) : Prop := ∀ (d : Nat) (m : Mc), Mok d m → Mok d (f m).2 ∧ (f m).1 ≤ 4294967295
theorem index_ok {f : Mc → Nat × Mc} (hf : MxK f) (v : Vr) {d : Nat} {m : Mc} (h : Mok d m) : Mok d (Mc.index f v m).2 ∧ ∀ i, (Mc.index f v m).1 = some i → i < v.size := by
  obtain ⟨h1, h2⟩ := hf d m h
  unfold Mc.index
  split
  · exact ⟨mok_stop h1 _, fun i hi => by cases hi⟩
  · exact ⟨h1, fun i hi => by cases hi; omega⟩
theorem elem_ok {f : Mc → Nat × Mc} (hf : MxK f) (v : Vr) : MxK (Mc.elem f v) := fun d m h => by
  have h1 := (index_ok hf v h).1
  unfold Mc.elem
  cases hq : Mc.index f v m with
  | mk o m1 =>
    rw [hq] at h1
    cases o with
    | none => exact ⟨h1, Nat.zero_le _⟩
    | some i => exact ⟨h1, word_le h1 _⟩
theorem opr2_ok {f : Mc → Nat × Mc} (hf : MxK f) (op : Tx) {a d : Nat} {m : Mc} (ha : a ≤ 4294967295) (h : Mok d m) : Mok d (Mc.opr2 f op a m).2 ∧ (Mc.opr2 f op a m).1 ≤ 4294967295 := by
  obtain ⟨h1, h2⟩ := hf d m h
  unfold Mc.opr2
  split
  · exact ⟨mok_end h1 _ _, Nat.zero_le _⟩
  · exact ⟨h1, apV_le ha h2⟩
theorem opr_ok {fl fr : Mc → Nat × Mc} (hl : MxK fl) (hr : MxK fr) (op : Tx) : MxK (Mc.opr fl fr op) := fun d m h => by
  obtain ⟨h1, h2⟩ := hl d m h
  unfold Mc.opr
  split
  · exact ⟨h1, Nat.zero_le _⟩
  · split
    · exact ⟨h1, by show 1 ≤ _; omega⟩
    · exact opr2_ok hr op h2 h1
theorem mx_ok : ∀ (e : Ex), exK e → MxK (mxF e)
  | ⟨k, v, vr, op, l, r, dp⟩, hK => by
    have hK' := hK
    unfold exK at hK'
    obtain ⟨_, hv, _, _, _, _, _, _, _, kl, kr⟩ := hK'
    have hl : MxK (mxO l) := by
      match l, kl with
      | none, _ => exact fun d m h => ⟨h, Nat.zero_le _⟩
      | some e, kl => exact mx_ok e kl
    have hr : MxK (mxO r) := by
      match r, kr with
      | none, _ => exact fun d m h => ⟨h, Nat.zero_le _⟩
      | some e, kr => exact mx_ok e kr
    intro d m h
    rw [mxF_eq]
    split
    · exact ⟨h, hv⟩
    · split
      · exact mok_ask h
      · split
        · exact ⟨h, word_le h _⟩
        · split
          · exact elem_ok hl vr d m h
          · split
            · exact ⟨(hl d m h).1, sgV_le⟩
            · exact opr_ok hl hr op d m h
theorem mxO_ok (o : Option Ex) (h : exOK o) : MxK (mxO o) := by
  cases o with
  | none => exact fun d m h => ⟨h, Nat.zero_le _⟩
  | some e => exact mx_ok e h
/-- the machine's contract for an expression -/
def MvE (e : Ex) : Prop := ∀ (w : World) (g : Nat) (m : Mc) (d p : Nat) (X : Nat → Prop), ExAt w e X p → (∀ j, X j → j < g) → MAt w g m → Mok d m →
  Calls Tryz.prog 63 #[.pointer (some ⟨g, 0, none⟩), .pointer (some ⟨p, 0, none⟩)] w (McPost g (.int .u32 ((mxF e m).1 : Nat)) (mxF e m).2 w)
theorem ExAt.km {w w' : World} {e : Ex} {X : Nat → Prop} {p g : Nat} (h : ExAt w e X p) (hk : Km g w w') (hX : ∀ j, X j → j < g) : ExAt w' e X p := h.move e fun j hj _ => ⟨hj, hk.b.block j (hX j hj)⟩
theorem Blk.kb2 {w w' : World} {p g : Nat} {T : TypeId} {vs : List Value} (h : Blk w p T vs) (hk : Km g w w') (hp : p < g) : Blk w' p T vs := h.keep (hk.b.block p hp)
def ixV (o : Option Nat) : Value := .tuple #[.int .i64 ((o.getD 0 : Nat) : Int), .bool o.isSome]
section
variable (w : World) (g : Nat) (m : Mc) (d : Nat)
set_option maxHeartbeats 4000000 in
set_option maxRecDepth 100000 in
theorem index_any (e : Ex) (vr : Vr) (q : Nat) (X : Nat → Prop) (hE : ExAt w e X q) (hX : ∀ j, X j → j < g) (he : MvE e) (hek : exK e) (h : MAt w g m) (hk : Mok d m) : Calls Tryz.prog 94 #[.pointer (some ⟨g, 0, none⟩), .agg (vrL vr).toArray, .pointer (some ⟨q, 0, none⟩)] w (McPost g (ixV (Mc.index (mxF e) vr m).1) (Mc.index (mxF e) vr m).2 w) := by
  have hb1 : Below w.heap.size w (w.alloc (.cells (vrL vr).toArray 63)) := (Below.refl _ _).alloc (Nat.le_refl _) _
  have hgl := h.lt
  have hk1 := Km.bel (g := g) hb1 (by omega)
  have HV := hide (he (w.alloc (.cells (vrL vr).toArray 63)) g m d q X (hE.km hk1 hX) hX (h.below hb1) hk)
  have HB : Hid (Blk (w.alloc (.cells (vrL vr).toArray 63)) w.heap.size 63 (vrL vr)) := hide ⟨heap_alloc_last _ _⟩
  have HK1 := hide hk1
  obtain ⟨o1, o2⟩ := mx_ok e hek d m hk
  have HO := hide o1
  have HI : Hid (Mc.index (mxF e) vr m = if vr.size ≤ (mxF e m).1 then (none, (mxF e m).2.stop 4294967295) else (some (mxF e m).1, (mxF e m).2)) := hide rfl
  obtain ⟨q2, hq2⟩ : ∃ x, mxF e m = x := ⟨_, rfl⟩
  rw [hq2] at HV HI HO o2
  obtain ⟨x, m1⟩ := q2
  have hwr : wrap64 (x : Int) = (x : Int) := by unfold wrap64; dsimp only at o2; omega
  have hng : Hid (w.heap.size ≠ g) := hide (by omega)
  clear hb1 hk1 h hk hE hX he o1 hq2
  dsimp only at HV HI HO o2
  go_enter Tryz.func94, Tryz.ntmps94
  go_upto_region 1 with fail
  generalize w.alloc (.cells (vrL vr).toArray 63) = w1 at *
  generalize w.heap.size = N at *
  go_wp2_with fail
  refine HV.out.mono ?_
  rintro e w2 ⟨rfl, h1, h2⟩
  have HB2 := hide (HB.out.km h2 hng.out (by decide))
  have HM2 := hide h1
  have HK2 := hide (HK1.out.trans h2)
  have c2 := HB2.out.get (j := 2) rfl
  clear h1 h2 HV HB HK1
  by_cases hx : vr.size ≤ x
  · have hxi : (vr.size : Int) ≤ (x : Int) := by omega
    rw [if_pos hx] at HI
    have HSt := hide (mstop_any w2 g m1 d 4294967295 (by decide) HM2.out HO.out)
    clear hx
    go_wp2_with fail
    refine HSt.out.mono ?_
    rintro e w3 ⟨rfl, h1, h2⟩
    have H1 := hide h1
    have H2 := hide (HK2.out.trans h2)
    clear h1 h2 HSt c2
    go_wp2
    go_ret2
    rw [HI.out]
    exact ⟨rfl, H1.out, H2.out⟩
  · have hxi : ¬ (vr.size : Int) ≤ (x : Int) := by omega
    rw [if_neg hx] at HI
    clear hx
    go_wp2
    go_ret2
    rw [HI.out]
    exact ⟨rfl, HM2.out, HK2.out⟩
end
end Go.Proofs.YtiafodeabdhcoaaGreatDoor

namespace Go.Proofs.YtiafodeabdhcoaaGreatDoor
open Go.RowKit
theorem Below.km_drew {g : Nat} {w w' : World} (h : Km g w w') : Km g w w'.drew := ⟨h.b.drew, h.o.drew⟩
theorem MAt.drew {w : World} {g : Nat} {m : Mc} (h : MAt w g m) : MAt w.drew g m := h.below (Below.refl _ w).drew
theorem info_vrc : (Tryz.prog.info? 63).map (·.size) = some 4 := by kernel_rfl
theorem add_offm (g o j : Nat) : (⟨g, o, none⟩ : Addr).add j = ⟨g, o + j, none⟩ := by unfold Addr.add; split <;> simp_all
theorem ex_cells {w : World} {p k v : Nat} {vr : Vr} {op : Tx} {pl pr : Value} {dp : Nat} (h : Blk w p 154 (exL k v vr op pl pr dp)) : ∀ (j : Nat) (x : Value), (vrL vr)[j]? = some x → w.cell? ((⟨p, 2, none⟩ : Addr).add j) = some x := fun j x hx => by
  rw [add_offm]
  match j, hx with
  | 0, hx => cases hx; exact h.get (j := 2) rfl
  | 1, hx => cases hx; exact h.get (j := 3) rfl
  | 2, hx => cases hx; exact h.get (j := 4) rfl
  | 3, hx => cases hx; exact h.get (j := 5) rfl
  | j + 4, hx => simp [vrL] at hx
set_option maxHeartbeats 8000000 in
set_option maxRecDepth 100000 in
theorem element_any (w0 : World) (g : Nat) (m : Mc) (d p q : Nat) (X : Nat → Prop) (v : Nat) (vr : Vr) (op : Tx) (e : Ex) (pr : Value) (dp : Nat) (h5 : 384 ≤ vr.at') (h6 : vr.at' + vr.size ≤ 480) (hpg : p < g)
    (hB : Blk w0 p 154 (exL 3 v vr op (.pointer (some ⟨q, 0, none⟩)) pr dp)) (hE : ExAt w0 e X q) (hX : ∀ j, X j → j < g) (he : MvE e) (hek : exK e) (h : MAt w0 g m) (hk : Mok d m) :
    Calls Tryz.prog 96 #[.pointer (some ⟨g, 0, none⟩), .pointer (some ⟨p, 0, none⟩)] w0 (McPost g (.int .u32 ((Mc.elem (mxF e) vr m).1 : Nat)) (Mc.elem (mxF e) vr m).2 w0) := by
  have hdr : Km g w0 w0.drew := Below.km_drew (Km.refl g w0)
  have HIx := hide (index_any w0.drew g m d e vr q X (hE.km hdr hX) hX he hek h.drew hk)
  obtain ⟨i1, i2⟩ := index_ok (mx_ok e hek) vr hk
  have HV : Hid (Mc.elem (mxF e) vr m = match Mc.index (mxF e) vr m with | (none, m1) => (0, m1) | (some i, m1) => (m1.word (vr.at' - 384 + i), m1)) := hide rfl
  obtain ⟨q2, hq2⟩ : ∃ x, Mc.index (mxF e) vr m = x := ⟨_, rfl⟩
  rw [hq2] at HIx HV i1 i2
  obtain ⟨o, m1⟩ := q2
  dsimp only at HIx i1 i2
  have HO := hide i1
  have HB0 := hide hB
  have HS0 : Hid ((fun W : World => (∀ (j : Nat) (x : Value), (vrL vr)[j]? = some x → W.cell? ((⟨p, 2, none⟩ : Addr).add j) = some x) ∧ W.cell? ⟨p, 7, none⟩ = some (.pointer (some ⟨q, 0, none⟩))) w0.drew) := hide ⟨ex_cells (hB.kb2 hdr hpg), (hB.kb2 hdr hpg).get (j := 7) rfl⟩
  have HDr := hide hdr
  clear hB hE hX he hek h hk hq2 i1 hdr
  go_enter Tryz.func96, Tryz.ntmps96
  go_upto_region 1 with fail
  obtain ⟨wD, hwD⟩ : ∃ wD, wD = w0.drew := ⟨_, rfl⟩
  rw [← hwD] at HIx HS0 HDr
  refine wp_region_held_drew (S := fun W : World => (∀ (j : Nat) (x : Value), (vrL vr)[j]? = some x → W.cell? ((⟨p, 2, none⟩ : Addr).add j) = some x) ∧ W.cell? ⟨p, 7, none⟩ = some (.pointer (some ⟨q, 0, none⟩))) (by kernel_rfl) (by rw [← hwD]; exact HS0.out) (fun hHeld => ?_)
  rw [← hwD]
  clear hwD hHeld
  refine hd_take 0 (o := ⟨some 8, _, _, _, _, _⟩) (.pointer (some ⟨g, 0, none⟩)) (by kernel_rfl) (by kernel_rfl) (by kernel_rfl) rfl (by rfl) (fun W hSw => by go_simp) (fun _ _ _ h => h) HS0.out ?_
  simp only [Act.put, List.setIfInBounds_toArray, List.set_cons_zero, List.set_cons_succ]
  refine hd_take 1 (o := ⟨some 9, _, _, _, _, _⟩) (.pointer (some ⟨p, 0, none⟩)) (by kernel_rfl) (by kernel_rfl) (by kernel_rfl) rfl (by rfl) (fun W hSw => by go_simp) (fun _ _ _ h => h) HS0.out ?_
  simp only [Act.put, List.setIfInBounds_toArray, List.set_cons_zero, List.set_cons_succ]
  refine hd_take 2 (o := ⟨some 10, _, _, _, _, _⟩) (.pointer (some ⟨p, 0, none⟩)) (by kernel_rfl) (by kernel_rfl) (by kernel_rfl) rfl (by rfl) (fun W hSw => by go_simp) (fun _ _ _ h => h) HS0.out ?_
  simp only [Act.put, List.setIfInBounds_toArray, List.set_cons_zero, List.set_cons_succ]
  refine hd_take 3 (o := ⟨some 11, _, _, _, _, _⟩) (.pointer (some ⟨p, 2, none⟩)) (by kernel_rfl) (by kernel_rfl) (by kernel_rfl) rfl (by rfl) (fun W hSw => by go_simp) (fun _ _ _ h => h) HS0.out ?_
  simp only [Act.put, List.setIfInBounds_toArray, List.set_cons_zero, List.set_cons_succ]
  refine hd_take 4 (o := ⟨some 12, _, _, _, _, _⟩) (.agg (vrL vr).toArray) (by kernel_rfl) (by kernel_rfl) (by kernel_rfl) rfl (by rfl) (fun W hSw => by exact run_loadT Tryz.underlying63 rfl (vrL vr) info_vrc _ rfl ⟨p, 2, none⟩ rfl hSw.1) (fun _ _ _ h => h) HS0.out ?_
  simp only [Act.put, List.setIfInBounds_toArray, List.set_cons_zero, List.set_cons_succ]
  refine hd_take 5 (o := ⟨some 13, _, _, _, _, _⟩) (.pointer (some ⟨p, 0, none⟩)) (by kernel_rfl) (by kernel_rfl) (by kernel_rfl) rfl (by rfl) (fun W hSw => by go_simp) (fun _ _ _ h => h) HS0.out ?_
  simp only [Act.put, List.setIfInBounds_toArray, List.set_cons_zero, List.set_cons_succ]
  refine hd_take 6 (o := ⟨some 14, _, _, _, _, _⟩) (.pointer (some ⟨p, 0, none⟩)) (by kernel_rfl) (by kernel_rfl) (by kernel_rfl) rfl (by rfl) (fun W hSw => by go_simp) (fun _ _ _ h => h) HS0.out ?_
  simp only [Act.put, List.setIfInBounds_toArray, List.set_cons_zero, List.set_cons_succ]
  refine hd_take 7 (o := ⟨some 15, _, _, _, _, _⟩) (.pointer (some ⟨p, 7, none⟩)) (by kernel_rfl) (by kernel_rfl) (by kernel_rfl) rfl (by rfl) (fun W hSw => by go_simp) (fun _ _ _ h => h) HS0.out ?_
  simp only [Act.put, List.setIfInBounds_toArray, List.set_cons_zero, List.set_cons_succ]
  refine hd_take 8 (o := ⟨some 16, _, _, _, _, _⟩) (.pointer (some ⟨q, 0, none⟩)) (by kernel_rfl) (by kernel_rfl) (by kernel_rfl) rfl (by rfl) (fun W hSw => by have k := hSw.2; go_simp) (fun _ _ _ h => h) HS0.out ?_
  simp only [Act.put, List.setIfInBounds_toArray, List.set_cons_zero, List.set_cons_succ]
  refine hd_call 9 (o := ⟨some 17, _, _, _, _, _⟩) (by kernel_rfl) rfl (by rfl) (fun K' hK => ?_)
  go_simp
  go_wp2_with (go_at_call 94; refine HIx.out.mono ?_; rintro e1 w2 ⟨rfl, hm2, hk2⟩)
  have HB2 := hide (HB0.out.kb2 (HDr.out.trans hk2) hpg)
  have HM2 := hide hm2
  have HK2 := hide (HDr.out.trans hk2)
  have HS1 : Hid ((fun W : World => (∀ (j : Nat) (x : Value), (vrL vr)[j]? = some x → W.cell? ((⟨p, 2, none⟩ : Addr).add j) = some x) ∧ W.cell? ⟨p, 7, none⟩ = some (.pointer (some ⟨q, 0, none⟩))) w2) := hide ⟨ex_cells HB2.out, HB2.out.get (j := 7) rfl⟩
  clear hm2 hk2 HIx HS0 HDr
  refine hK _ _ HS1.out ?_
  clear hK K'
  try simp only [Act.put, List.setIfInBounds_toArray, List.set_cons_zero, List.set_cons_succ]
  unfold ixV
  refine hd_take 10 (o := ⟨some 7, _, _, _, _, _⟩) (.tuple #[.int .i64 ((o.getD 0 : Nat) : Int), .bool o.isSome]) (by kernel_rfl) (by kernel_rfl) (by kernel_rfl) rfl (by rfl) (fun W hSw => by go_simp) (fun _ _ _ h => h) HS1.out ?_
  simp only [Act.put, List.setIfInBounds_toArray, List.set_cons_zero, List.set_cons_succ]
  refine hd_take 11 (o := ⟨some 18, _, _, _, _, _⟩) (.int .i64 ((o.getD 0 : Nat) : Int)) (by kernel_rfl) (by kernel_rfl) (by kernel_rfl) rfl (by rfl) (fun W hSw => by go_simp) (fun _ _ _ h => h) HS1.out ?_
  simp only [Act.put, List.setIfInBounds_toArray, List.set_cons_zero, List.set_cons_succ]
  refine hd_take 12 (o := ⟨some 19, _, _, _, _, _⟩) (.bool o.isSome) (by kernel_rfl) (by kernel_rfl) (by kernel_rfl) rfl (by rfl) (fun W hSw => by go_simp) (fun _ _ _ h => h) HS1.out ?_
  simp only [Act.put, List.setIfInBounds_toArray, List.set_cons_zero, List.set_cons_succ]
  refine hd_take 13 (o := ⟨some 5, _, _, _, _, _⟩) (.int .i64 ((o.getD 0 : Nat) : Int)) (by kernel_rfl) (by kernel_rfl) (by kernel_rfl) rfl (by rfl) (fun W hSw => by go_simp) (fun _ _ _ h => h) HS1.out ?_
  simp only [Act.put, List.setIfInBounds_toArray, List.set_cons_zero, List.set_cons_succ]
  refine hd_take 14 (o := ⟨some 6, _, _, _, _, _⟩) (.bool o.isSome) (by kernel_rfl) (by kernel_rfl) (by kernel_rfl) rfl (by rfl) (fun W hSw => by go_simp) (fun _ _ _ h => h) HS1.out ?_
  simp only [Act.put, List.setIfInBounds_toArray, List.set_cons_zero, List.set_cons_succ]
  refine wpAnyH_done (by kernel_rfl) ?_ _
  cases o with
  | none =>
    go_wp2
    go_ret
    rw [HV.out]
    exact ⟨rfl, HM2.out, HK2.out⟩
  | some i =>
    have hi := i2 i rfl
    dsimp only [Option.getD, Option.isSome]
    have hatn : vr.at' - 384 + i < 96 := by omega
    obtain ⟨cw, _⟩ := HM2.out.cell (j := 5 + (vr.at' - 384 + i)) (x := .int .u32 (m1.word (vr.at' - 384 + i) : Nat)) (fun ov an => mc_word ov an m1 HO.out.wl _ hatn)
    have b5 := HB2.out.get (j := 5) rfl
    have hw1 : IntKind.i64.wrap ((vr.at' : Int) - 384) = (vr.at' : Int) - 384 := by rw [IntKind.wrap_i64]; omega
    have hw2 : IntKind.i64.wrap ((vr.at' : Int) - 384 + (i : Int)) = (vr.at' : Int) - 384 + (i : Int) := by rw [IntKind.wrap_i64]; omega
    have hn0 : (0 : Int) ≤ (vr.at' : Int) - 384 + (i : Int) := by omega
    have hn1 : (vr.at' : Int) - 384 + (i : Int) < 96 := by omega
    have hnt : ((vr.at' : Int) - 384 + (i : Int)).toNat = vr.at' - 384 + i := by omega
    have hla : ((vr.at' - 384 + i : Nat) : Int) = (vr.at' : Int) - 384 + (i : Int) := by omega
    go_upto_region 4 with fail
    go_region
    all_goals (go_wp2; go_ret; rw [HV.out]; exact ⟨rfl, HM2.out.drew, Below.km_drew HK2.out⟩)
end Go.Proofs.YtiafodeabdhcoaaGreatDoor

namespace Go.Proofs.YtiafodeabdhcoaaGreatDoor
open Go.RowKit
set_option maxHeartbeats 8000000 in
set_option maxRecDepth 100000 in
theorem mopr_any (w0 : World) (g : Nat) (m : Mc) (d p q1 q2 : Nat) (X1 X2 : Nat → Prop) (v : Nat) (vr : Vr) (op : Tx) (l r : Ex) (dp : Nat) (hop : lvT op ≠ 0) (hpg : p < g)
    (hB : Blk w0 p 154 (exL 5 v vr op (.pointer (some ⟨q1, 0, none⟩)) (.pointer (some ⟨q2, 0, none⟩)) dp)) (hL : ExAt w0 l X1 q1) (hR : ExAt w0 r X2 q2) (hX1 : ∀ j, X1 j → j < g) (hX2 : ∀ j, X2 j → j < g) (hl : MvE l) (hr : MvE r) (hlk : exK l) (hrk : exK r) (h : MAt w0 g m) (hk : Mok d m) :
    Calls Tryz.prog 98 #[.pointer (some ⟨g, 0, none⟩), .pointer (some ⟨p, 0, none⟩)] w0 (McPost g (.int .u32 ((Mc.opr (mxF l) (mxF r) op m).1 : Nat)) (Mc.opr (mxF l) (mxF r) op m).2 w0) := by
  have HLv := hide (hl w0 g m d q1 X1 hL hX1 h hk)
  obtain ⟨o1, u1⟩ := mx_ok l hlk d m hk
  have HV : Hid (Mc.opr (mxF l) (mxF r) op m = if op = [38, 38] ∧ (mxF l m).1 = 0 then (0, (mxF l m).2) else if op = [124, 124] ∧ (mxF l m).1 ≠ 0 then (1, (mxF l m).2) else Mc.opr2 (mxF r) op (mxF l m).1 (mxF l m).2) := hide rfl
  obtain ⟨z1, hz1⟩ : ∃ x, mxF l m = x := ⟨_, rfl⟩
  rw [hz1] at HLv HV o1 u1
  obtain ⟨a, m1⟩ := z1
  dsimp only at HLv HV o1 u1
  have HB0 := hide hB
  obtain ⟨o2, u2⟩ := mx_ok r hrk d m1 o1
  have HRv : Hid (∀ w1, Km g w0 w1 → MAt w1 g m1 → Calls Tryz.prog 63 #[.pointer (some ⟨g, 0, none⟩), .pointer (some ⟨q2, 0, none⟩)] w1 (McPost g (.int .u32 ((mxF r m1).1 : Nat)) (mxF r m1).2 w1)) := hide (fun w1 hk1 hm1 => hr w1 g m1 d q2 X2 (hR.km hk1 hX2) hX2 hm1 o1)
  have HV2 : Hid (Mc.opr2 (mxF r) op a m1 = if (mxF r m1).1 = 0 ∧ divT op = true then (0, (mxF r m1).2.endM 4 73) else (apV op a (mxF r m1).1, (mxF r m1).2)) := hide rfl
  obtain ⟨z2, hz2⟩ : ∃ x, mxF r m1 = x := ⟨_, rfl⟩
  rw [hz2] at HRv HV2 o2 u2
  obtain ⟨b, m2⟩ := z2
  dsimp only at HRv HV2 o2 u2
  have HO2 := hide o2
  have HOp := hide hop
  clear hB hL hR hX1 hX2 hl hr hlk hrk h hk hz1 hz2 o1 o2 hop
  have b6 := HB0.out.get (j := 6) rfl
  have b7 := HB0.out.get (j := 7) rfl
  by_cases ha : op = [38, 38]
  · subst ha
    by_cases hz : a = 0
    · rw [if_pos ⟨rfl, hz⟩] at HV
      have hzi : ((a : Int) == 0) = true := by simp; omega
      clear hz HRv HV2
      go_enter Tryz.func98, Tryz.ntmps98
      go_wp2_with fail
      refine HLv.out.mono ?_
      rintro e w1 ⟨rfl, hm1, hk1⟩
      have HM1 := hide hm1
      have HK1 := hide hk1
      clear hm1 hk1 HLv b6 b7
      have b6 := (HB0.out.kb2 HK1.out hpg).get (j := 6) rfl
      have b8 := (HB0.out.kb2 HK1.out hpg).get (j := 8) rfl
      go_wp2
      go_ret
      rw [HV.out]
      exact ⟨rfl, HM1.out, HK1.out⟩
    · rw [if_neg (fun h => hz h.2), if_neg (fun h => absurd h.1 (by decide))] at HV
      have hzi : ((a : Int) == 0) = false := by simp; omega
      have hzn : ¬ (a : Int) = 0 := by omega
      clear hz
      go_enter Tryz.func98, Tryz.ntmps98
      go_wp2_with fail
      refine HLv.out.mono ?_
      rintro e w1 ⟨rfl, hm1, hk1⟩
      have HM1 := hide hm1
      have HK1 := hide hk1
      clear hm1 hk1 HLv b6 b7
      have b6 := (HB0.out.kb2 HK1.out hpg).get (j := 6) rfl
      have b8 := (HB0.out.kb2 HK1.out hpg).get (j := 8) rfl
      go_wp2_with fail
      refine (HRv.out w1 HK1.out HM1.out).mono ?_
      rintro e w2 ⟨rfl, hm2, hk2⟩
      have HM2 := hide hm2
      have HK2 := hide (HK1.out.trans hk2)
      clear hm2 hk2 HRv HM1 HK1 b6 b8
      have b6 := (HB0.out.kb2 HK2.out hpg).get (j := 6) rfl
      by_cases hb0 : b = 0
      · have hbz : ((b : Int) == 0) = true := by simp; omega
        have HDv := hide (divides_any w2 ([38, 38] : Tx))
        by_cases hdv : divT ([38, 38] : Tx) = true
        · rw [if_pos ⟨hb0, hdv⟩] at HV2
          rw [hdv] at HDv
          have HEn := hide (end_any w2 g m2 4 73 HM2.out HO2.out.wl)
          clear hb0 hdv
          go_wp2_with fail
          refine HDv.out.mono ?_
          rintro e w3 ⟨rfl, rfl⟩
          clear HDv
          go_wp2_with fail
          refine HEn.out.mono ?_
          rintro e w4 ⟨rfl, hm4, hk4⟩
          have HM4 := hide hm4
          have HK4 := hide (HK2.out.trans hk4)
          clear hm4 hk4 HEn b6
          go_wp2
          go_ret
          rw [HV.out, HV2.out]
          exact ⟨rfl, HM4.out, HK4.out⟩
        · rw [if_neg (fun h => hdv h.2)] at HV2
          have hdf : divT ([38, 38] : Tx) = false := by simpa using hdv
          rw [hdf] at HDv
          have HAp := hide (apply_any w2 ([38, 38] : Tx) a b HOp.out u1 u2 (fun h => hdv h.2))
          clear hb0 hdv
          go_wp2_with fail
          refine HDv.out.mono ?_
          rintro e w3 ⟨rfl, rfl⟩
          clear HDv
          go_wp2_with fail
          refine HAp.out.mono ?_
          rintro e w4 ⟨rfl, rfl⟩
          clear HAp b6
          go_wp2
          go_ret
          rw [HV.out, HV2.out]
          exact ⟨rfl, HM2.out, HK2.out⟩
      · rw [if_neg (fun h => hb0 h.1)] at HV2
        have hbz : ((b : Int) == 0) = false := by simp; omega
        have hbz2 : ¬ (b : Int) = 0 := by omega
        have HAp := hide (apply_any w2 ([38, 38] : Tx) a b HOp.out u1 u2 (fun h => hb0 h.1))
        clear hb0
        go_wp2_with fail
        refine HAp.out.mono ?_
        rintro e w4 ⟨rfl, rfl⟩
        clear HAp b6
        go_wp2
        go_ret
        rw [HV.out, HV2.out]
        exact ⟨rfl, HM2.out, HK2.out⟩
  · have e1 : (op == [38, 38]) = false := by simpa using ha
    rw [if_neg (fun h => ha h.1)] at HV
    clear ha
    by_cases hb : op = [124, 124]
    · subst hb
      by_cases hz : a = 0
      · rw [if_neg (fun h => h.2 hz)] at HV
        have hzi : ((a : Int) != 0) = false := by simp; omega
        have hzj : ((a : Int) == 0) = true := by simp; omega
        clear hz e1
        go_enter Tryz.func98, Tryz.ntmps98
        go_wp2_with fail
        refine HLv.out.mono ?_
        rintro e w1 ⟨rfl, hm1, hk1⟩
        have HM1 := hide hm1
        have HK1 := hide hk1
        clear hm1 hk1 HLv b6 b7
        have b6 := (HB0.out.kb2 HK1.out hpg).get (j := 6) rfl
        have b8 := (HB0.out.kb2 HK1.out hpg).get (j := 8) rfl
        go_wp2_with fail
        refine (HRv.out w1 HK1.out HM1.out).mono ?_
        rintro e w2 ⟨rfl, hm2, hk2⟩
        have HM2 := hide hm2
        have HK2 := hide (HK1.out.trans hk2)
        clear hm2 hk2 HRv HM1 HK1 b6 b8
        have b6 := (HB0.out.kb2 HK2.out hpg).get (j := 6) rfl
        by_cases hb0 : b = 0
        · have hbz : ((b : Int) == 0) = true := by simp; omega
          have HDv := hide (divides_any w2 ([124, 124] : Tx))
          by_cases hdv : divT ([124, 124] : Tx) = true
          · rw [if_pos ⟨hb0, hdv⟩] at HV2
            rw [hdv] at HDv
            have HEn := hide (end_any w2 g m2 4 73 HM2.out HO2.out.wl)
            clear hb0 hdv
            go_wp2_with fail
            refine HDv.out.mono ?_
            rintro e w3 ⟨rfl, rfl⟩
            clear HDv
            go_wp2_with fail
            refine HEn.out.mono ?_
            rintro e w4 ⟨rfl, hm4, hk4⟩
            have HM4 := hide hm4
            have HK4 := hide (HK2.out.trans hk4)
            clear hm4 hk4 HEn b6
            go_wp2
            go_ret
            rw [HV.out, HV2.out]
            exact ⟨rfl, HM4.out, HK4.out⟩
          · rw [if_neg (fun h => hdv h.2)] at HV2
            have hdf : divT ([124, 124] : Tx) = false := by simpa using hdv
            rw [hdf] at HDv
            have HAp := hide (apply_any w2 ([124, 124] : Tx) a b HOp.out u1 u2 (fun h => hdv h.2))
            clear hb0 hdv
            go_wp2_with fail
            refine HDv.out.mono ?_
            rintro e w3 ⟨rfl, rfl⟩
            clear HDv
            go_wp2_with fail
            refine HAp.out.mono ?_
            rintro e w4 ⟨rfl, rfl⟩
            clear HAp b6
            go_wp2
            go_ret
            rw [HV.out, HV2.out]
            exact ⟨rfl, HM2.out, HK2.out⟩
        · rw [if_neg (fun h => hb0 h.1)] at HV2
          have hbz : ((b : Int) == 0) = false := by simp; omega
          have hbz2 : ¬ (b : Int) = 0 := by omega
          have HAp := hide (apply_any w2 ([124, 124] : Tx) a b HOp.out u1 u2 (fun h => hb0 h.1))
          clear hb0
          go_wp2_with fail
          refine HAp.out.mono ?_
          rintro e w4 ⟨rfl, rfl⟩
          clear HAp b6
          go_wp2
          go_ret
          rw [HV.out, HV2.out]
          exact ⟨rfl, HM2.out, HK2.out⟩
      · rw [if_pos ⟨rfl, hz⟩] at HV
        have hzi : ((a : Int) != 0) = true := by simp; omega
        have hzj : ((a : Int) == 0) = false := by simp; omega
        have hzn : ¬ (a : Int) = 0 := by omega
        clear hz e1 HRv HV2
        go_enter Tryz.func98, Tryz.ntmps98
        go_wp2_with fail
        refine HLv.out.mono ?_
        rintro e w1 ⟨rfl, hm1, hk1⟩
        have HM1 := hide hm1
        have HK1 := hide hk1
        clear hm1 hk1 HLv b6 b7
        have b6 := (HB0.out.kb2 HK1.out hpg).get (j := 6) rfl
        have b8 := (HB0.out.kb2 HK1.out hpg).get (j := 8) rfl
        go_wp2
        go_ret
        rw [HV.out]
        exact ⟨rfl, HM1.out, HK1.out⟩
    · have e2 : (op == [124, 124]) = false := by simpa using hb
      rw [if_neg (fun h => hb h.1)] at HV
      clear hb
      go_enter Tryz.func98, Tryz.ntmps98
      go_wp2_with fail
      refine HLv.out.mono ?_
      rintro e w1 ⟨rfl, hm1, hk1⟩
      have HM1 := hide hm1
      have HK1 := hide hk1
      clear hm1 hk1 HLv b6 b7
      have b6 := (HB0.out.kb2 HK1.out hpg).get (j := 6) rfl
      have b8 := (HB0.out.kb2 HK1.out hpg).get (j := 8) rfl
      go_wp2_with fail
      refine (HRv.out w1 HK1.out HM1.out).mono ?_
      rintro e w2 ⟨rfl, hm2, hk2⟩
      have HM2 := hide hm2
      have HK2 := hide (HK1.out.trans hk2)
      clear hm2 hk2 HRv HM1 HK1 b6 b8
      have b6 := (HB0.out.kb2 HK2.out hpg).get (j := 6) rfl
      by_cases hb0 : b = 0
      · have hbz : ((b : Int) == 0) = true := by simp; omega
        have HDv := hide (divides_any w2 op)
        by_cases hdv : divT op = true
        · rw [if_pos ⟨hb0, hdv⟩] at HV2
          rw [hdv] at HDv
          have HEn := hide (end_any w2 g m2 4 73 HM2.out HO2.out.wl)
          clear hb0 hdv
          go_wp2_with fail
          refine HDv.out.mono ?_
          rintro e w3 ⟨rfl, rfl⟩
          clear HDv
          go_wp2_with fail
          refine HEn.out.mono ?_
          rintro e w4 ⟨rfl, hm4, hk4⟩
          have HM4 := hide hm4
          have HK4 := hide (HK2.out.trans hk4)
          clear hm4 hk4 HEn b6
          go_wp2
          go_ret
          rw [HV.out, HV2.out]
          exact ⟨rfl, HM4.out, HK4.out⟩
        · rw [if_neg (fun h => hdv h.2)] at HV2
          have hdf : divT op = false := by simpa using hdv
          rw [hdf] at HDv
          have HAp := hide (apply_any w2 op a b HOp.out u1 u2 (fun h => hdv h.2))
          clear hb0 hdv
          go_wp2_with fail
          refine HDv.out.mono ?_
          rintro e w3 ⟨rfl, rfl⟩
          clear HDv
          go_wp2_with fail
          refine HAp.out.mono ?_
          rintro e w4 ⟨rfl, rfl⟩
          clear HAp b6
          go_wp2
          go_ret
          rw [HV.out, HV2.out]
          exact ⟨rfl, HM2.out, HK2.out⟩
      · rw [if_neg (fun h => hb0 h.1)] at HV2
        have hbz : ((b : Int) == 0) = false := by simp; omega
        have hbz2 : ¬ (b : Int) = 0 := by omega
        have HAp := hide (apply_any w2 op a b HOp.out u1 u2 (fun h => hb0 h.1))
        clear hb0
        go_wp2_with fail
        refine HAp.out.mono ?_
        rintro e w4 ⟨rfl, rfl⟩
        clear HAp b6
        go_wp2
        go_ret
        rw [HV.out, HV2.out]
        exact ⟨rfl, HM2.out, HK2.out⟩
end Go.Proofs.YtiafodeabdhcoaaGreatDoor

namespace Go.Proofs.YtiafodeabdhcoaaGreatDoor
open Go.RowKit
set_option maxHeartbeats 8000000 in
set_option maxRecDepth 100000 in
theorem mv_step (k v : Nat) (vr : Vr) (op : Tx) (l r : Option Ex) (dp : Nat) (hK : exK ⟨k, v, vr, op, l, r, dp⟩) (hl : ∀ e, l = some e → MvE e ∧ exK e) (hr : ∀ e, r = some e → MvE e ∧ exK e) : MvE ⟨k, v, vr, op, l, r, dp⟩ := by
  intro w0 g m d p X hE hX h hk
  obtain ⟨hXp, pl, pr, hB, hL, hR⟩ := ExAt.iff.1 hE
  have hpg := hX p hXp
  unfold exK at hK
  obtain ⟨hk5, hv, hsz, hat, h2, h3, h5, hln, hrn, _, _⟩ := hK
  have HB0 := hide hB
  have b0 := HB0.out.get (j := 0) rfl
  clear hE hB
  have hkk : k = 0 ∨ k = 1 ∨ k = 2 ∨ k = 3 ∨ k = 4 ∨ k = 5 := by omega
  have hmx := mxF_eq k v vr op l r dp m
  rcases hkk with rfl | rfl | rfl | rfl | rfl | rfl
  · have HV : Hid (mxF ⟨0, v, vr, op, l, r, dp⟩ m = (v, m)) := hide hmx
    have HM := hide h
    have b1 := HB0.out.get (j := 1) rfl
    clear hmx h hk hl hr hL hR h2 h3 h5 hln hrn
    go_enter Tryz.func63, Tryz.ntmps63
    go_wp2
    go_ret
    rw [HV.out]
    exact ⟨rfl, HM.out, Km.refl _ _⟩
  · have HV : Hid (mxF ⟨1, v, vr, op, l, r, dp⟩ m = m.ask) := hide hmx
    have HA := hide (mask_any w0 g m d h hk)
    clear hmx h hk hl hr hL hR h2 h3 h5 hln hrn
    go_enter Tryz.func63, Tryz.ntmps63
    go_wp2_with fail
    refine HA.out.mono ?_
    rintro e w1 ⟨rfl, h1, h2⟩
    have H1 := hide h1
    have H2 := hide h2
    clear h1 h2 HA b0
    go_wp2
    go_ret
    rw [HV.out]
    exact ⟨rfl, H1.out, H2.out⟩
  · have HV : Hid (mxF ⟨2, v, vr, op, l, r, dp⟩ m = (m.word (vr.at' - 384), m)) := hide hmx
    have HM := hide h
    obtain ⟨g1, g2⟩ := h2 rfl
    have hatn : vr.at' - 384 < 96 := by omega
    obtain ⟨cw, _⟩ := h.cell (j := 5 + (vr.at' - 384)) (x := .int .u32 (m.word (vr.at' - 384) : Nat)) (fun ov an => mc_word ov an m hk.wl _ hatn)
    have b5 := HB0.out.get (j := 5) rfl
    have hw1 : IntKind.i64.wrap ((vr.at' : Int) - 384) = (vr.at' : Int) - 384 := by rw [IntKind.wrap_i64]; omega
    have hn0 : (0 : Int) ≤ (vr.at' : Int) - 384 := by omega
    have hn1 : (vr.at' : Int) - 384 < 96 := by omega
    have hnt : ((vr.at' : Int) - 384).toNat = vr.at' - 384 := by omega
    have hla : ((vr.at' - 384 : Nat) : Int) = (vr.at' : Int) - 384 := by omega
    clear hmx h hk hl hr hL hR h2 h3 h5 hln hrn
    go_enter Tryz.func63, Tryz.ntmps63
    go_upto_region 7 with fail
    go_region
    all_goals (go_wp2; go_ret; rw [HV.out]; exact ⟨rfl, HM.out.drew, Below.km_drew (Km.refl _ _)⟩)
  · obtain ⟨e, rfl⟩ : ∃ e, l = some e := Option.ne_none_iff_exists'.1 (hln (by decide))
    obtain ⟨q1, rfl, hL⟩ := hL
    have HV : Hid (mxF ⟨3, v, vr, op, some e, r, dp⟩ m = Mc.elem (mxF e) vr m) := hide hmx
    obtain ⟨g1, g2⟩ := h3 rfl
    have HA := hide (element_any w0 g m d p q1 _ v vr op e pr dp g1 g2 hpg HB0.out hL (fun j hj => hX j hj.1) (hl e rfl).1 (hl e rfl).2 h hk)
    clear hmx h hk hl hr hL hR h2 h3 h5 hln hrn
    go_enter Tryz.func63, Tryz.ntmps63
    go_wp2_with fail
    refine HA.out.mono ?_
    rintro ee w1 ⟨rfl, h1, h2⟩
    have H1 := hide h1
    have H2 := hide h2
    clear h1 h2 HA b0
    go_wp2
    go_ret
    rw [HV.out]
    exact ⟨rfl, H1.out, H2.out⟩
  · obtain ⟨e, rfl⟩ : ∃ e, l = some e := Option.ne_none_iff_exists'.1 (hln (by decide))
    obtain ⟨q1, rfl, hL⟩ := hL
    have HV : Hid (mxF ⟨4, v, vr, op, some e, r, dp⟩ m = (sgV op (mxF e m).1, (mxF e m).2)) := hide hmx
    have hdr : Km g w0 w0.drew := Below.km_drew (Km.refl g w0)
    have HLv := hide ((hl e rfl).1 w0.drew g m d q1 _ (hL.km hdr (fun j hj => hX j hj.1)) (fun j hj => hX j hj.1) h.drew hk)
    obtain ⟨o1, u1⟩ := mx_ok e (hl e rfl).2 d m hk
    obtain ⟨z1, hz1⟩ : ∃ x, mxF e m = x := ⟨_, rfl⟩
    rw [hz1] at HLv HV o1 u1
    obtain ⟨a, m1⟩ := z1
    dsimp only at HLv HV o1 u1
    have HDr := hide hdr
    have HS0 : Hid ((fun W : World => W.cell? ⟨p, 6, none⟩ = some (.string ⟨op.toArray⟩) ∧ W.cell? ⟨p, 7, none⟩ = some (.pointer (some ⟨q1, 0, none⟩))) w0.drew) := hide ⟨(HB0.out.kb2 hdr hpg).get (j := 6) rfl, (HB0.out.kb2 hdr hpg).get (j := 7) rfl⟩
    clear hmx h hk hl hr hL hR h2 h3 h5 hln hrn hdr hz1
    go_enter Tryz.func63, Tryz.ntmps63
    go_upto_region 11 with fail
    obtain ⟨wD, hwD⟩ : ∃ wD, wD = w0.drew := ⟨_, rfl⟩
    rw [← hwD] at HLv HS0 HDr
    refine wp_region_held_drew (S := fun W : World => W.cell? ⟨p, 6, none⟩ = some (.string ⟨op.toArray⟩) ∧ W.cell? ⟨p, 7, none⟩ = some (.pointer (some ⟨q1, 0, none⟩))) (by kernel_rfl) (by rw [← hwD]; exact HS0.out) (fun hHeld => ?_)
    rw [← hwD]
    clear hwD hHeld b0
    refine hd_take 0 (o := ⟨some 39, _, _, _, _, _⟩) (.pointer (some ⟨p, 0, none⟩)) (by kernel_rfl) (by kernel_rfl) (by kernel_rfl) rfl (by rfl) (fun W hSw => by go_simp) (fun _ _ _ h => h) HS0.out ?_
    simp only [Act.put, List.setIfInBounds_toArray, List.set_cons_zero, List.set_cons_succ]
    refine hd_take 1 (o := ⟨some 40, _, _, _, _, _⟩) (.pointer (some ⟨p, 0, none⟩)) (by kernel_rfl) (by kernel_rfl) (by kernel_rfl) rfl (by rfl) (fun W hSw => by go_simp) (fun _ _ _ h => h) HS0.out ?_
    simp only [Act.put, List.setIfInBounds_toArray, List.set_cons_zero, List.set_cons_succ]
    refine hd_take 2 (o := ⟨some 41, _, _, _, _, _⟩) (.pointer (some ⟨p, 6, none⟩)) (by kernel_rfl) (by kernel_rfl) (by kernel_rfl) rfl (by rfl) (fun W hSw => by go_simp) (fun _ _ _ h => h) HS0.out ?_
    simp only [Act.put, List.setIfInBounds_toArray, List.set_cons_zero, List.set_cons_succ]
    refine hd_take 3 (o := ⟨some 42, _, _, _, _, _⟩) (.string ⟨op.toArray⟩) (by kernel_rfl) (by kernel_rfl) (by kernel_rfl) rfl (by rfl) (fun W hSw => by have k := hSw.1; go_simp) (fun _ _ _ h => h) HS0.out ?_
    simp only [Act.put, List.setIfInBounds_toArray, List.set_cons_zero, List.set_cons_succ]
    refine hd_take 4 (o := ⟨some 43, _, _, _, _, _⟩) (.pointer (some ⟨g, 0, none⟩)) (by kernel_rfl) (by kernel_rfl) (by kernel_rfl) rfl (by rfl) (fun W hSw => by go_simp) (fun _ _ _ h => h) HS0.out ?_
    simp only [Act.put, List.setIfInBounds_toArray, List.set_cons_zero, List.set_cons_succ]
    refine hd_take 5 (o := ⟨some 44, _, _, _, _, _⟩) (.pointer (some ⟨p, 0, none⟩)) (by kernel_rfl) (by kernel_rfl) (by kernel_rfl) rfl (by rfl) (fun W hSw => by go_simp) (fun _ _ _ h => h) HS0.out ?_
    simp only [Act.put, List.setIfInBounds_toArray, List.set_cons_zero, List.set_cons_succ]
    refine hd_take 6 (o := ⟨some 45, _, _, _, _, _⟩) (.pointer (some ⟨p, 0, none⟩)) (by kernel_rfl) (by kernel_rfl) (by kernel_rfl) rfl (by rfl) (fun W hSw => by go_simp) (fun _ _ _ h => h) HS0.out ?_
    simp only [Act.put, List.setIfInBounds_toArray, List.set_cons_zero, List.set_cons_succ]
    refine hd_take 7 (o := ⟨some 46, _, _, _, _, _⟩) (.pointer (some ⟨p, 7, none⟩)) (by kernel_rfl) (by kernel_rfl) (by kernel_rfl) rfl (by rfl) (fun W hSw => by go_simp) (fun _ _ _ h => h) HS0.out ?_
    simp only [Act.put, List.setIfInBounds_toArray, List.set_cons_zero, List.set_cons_succ]
    refine hd_take 8 (o := ⟨some 47, _, _, _, _, _⟩) (.pointer (some ⟨q1, 0, none⟩)) (by kernel_rfl) (by kernel_rfl) (by kernel_rfl) rfl (by rfl) (fun W hSw => by have k := hSw.2; go_simp) (fun _ _ _ h => h) HS0.out ?_
    simp only [Act.put, List.setIfInBounds_toArray, List.set_cons_zero, List.set_cons_succ]
    refine hd_call 9 (o := ⟨some 48, _, _, _, _, _⟩) (by kernel_rfl) rfl (by rfl) (fun K' hK => ?_)
    go_simp
    go_wp2_with (go_at_call 63; refine HLv.out.mono ?_; rintro e1 w2 ⟨rfl, hm2, hk2⟩)
    have HB2 := hide (HB0.out.kb2 (HDr.out.trans hk2) hpg)
    have HM2 := hide hm2
    have HK2 := hide (HDr.out.trans hk2)
    have HS1 : Hid ((fun W : World => W.cell? ⟨p, 6, none⟩ = some (.string ⟨op.toArray⟩) ∧ W.cell? ⟨p, 7, none⟩ = some (.pointer (some ⟨q1, 0, none⟩))) w2) := hide ⟨HB2.out.get (j := 6) rfl, HB2.out.get (j := 7) rfl⟩
    clear hm2 hk2 HLv HS0 HDr
    refine hK _ _ HS1.out ?_
    clear hK K'
    try simp only [Act.put, List.setIfInBounds_toArray, List.set_cons_zero, List.set_cons_succ]
    refine hd_call 10 (o := ⟨some 49, _, _, _, _, _⟩) (by kernel_rfl) rfl (by rfl) (fun K' hK => ?_)
    go_simp
    go_wp2_with (go_at_call 97; refine (sign_any w2 op a u1).mono ?_; rintro e1 w3 ⟨rfl, rfl⟩)
    refine hK _ _ HS1.out ?_
    clear hK K'
    try simp only [Act.put, List.setIfInBounds_toArray, List.set_cons_zero, List.set_cons_succ]
    refine hd_take 11 (o := ⟨some 4, _, _, _, _, _⟩) (.int .u32 (sgV op a : Nat)) (by kernel_rfl) (by kernel_rfl) (by kernel_rfl) rfl (by rfl) (fun W hSw => by go_simp) (fun _ _ _ h => h) HS1.out ?_
    simp only [Act.put, List.setIfInBounds_toArray, List.set_cons_zero, List.set_cons_succ]
    refine wpAnyH_done (by kernel_rfl) ?_ _
    go_wp2
    go_ret
    rw [HV.out]
    exact ⟨rfl, HM2.out, HK2.out⟩
  · obtain ⟨e, rfl⟩ : ∃ e, l = some e := Option.ne_none_iff_exists'.1 (hln (by decide))
    obtain ⟨e', rfl⟩ : ∃ e, r = some e := Option.ne_none_iff_exists'.1 (hrn rfl)
    obtain ⟨q1, rfl, hL⟩ := hL
    obtain ⟨q2, rfl, hR⟩ := hR
    have HV : Hid (mxF ⟨5, v, vr, op, some e, some e', dp⟩ m = Mc.opr (mxF e) (mxF e') op m) := hide hmx
    have HA := hide (mopr_any w0 g m d p q1 q2 _ _ v vr op e e' dp (h5 rfl) hpg HB0.out hL hR (fun j hj => hX j hj.1) (fun j hj => hX j hj.1) (hl e rfl).1 (hr e' rfl).1 (hl e rfl).2 (hr e' rfl).2 h hk)
    clear hmx h hk hl hr hL hR h2 h3 h5 hln hrn
    go_enter Tryz.func63, Tryz.ntmps63
    go_wp2_with fail
    refine HA.out.mono ?_
    rintro ee w1 ⟨rfl, h1, h2⟩
    have H1 := hide h1
    have H2 := hide h2
    clear h1 h2 HA b0
    go_wp2
    go_ret
    rw [HV.out]
    exact ⟨rfl, H1.out, H2.out⟩
theorem mv_all : ∀ (e : Ex), exK e → MvE e
  | ⟨k, v, vr, op, l, r, dp⟩, h => by
    have h' := h
    unfold exK at h'
    obtain ⟨_, _, _, _, _, _, _, _, _, h1, h2⟩ := h'
    refine mv_step k v vr op l r dp h (fun e he => ?_) (fun e he => ?_)
    · match l, he, h1 with
      | some x, he, h1 => have he' := Option.some.inj he; rw [← he']; exact ⟨mv_all x h1, h1⟩
    · match r, he, h2 with
      | some x, he, h2 => have he' := Option.some.inj he; rw [← he']; exact ⟨mv_all x h2, h2⟩
end Go.Proofs.YtiafodeabdhcoaaGreatDoor

namespace Go.Proofs.YtiafodeabdhcoaaGreatDoor
open Go.RowKit
/-- statements' machine is one again -/
def MsK (f : Mc → Nat × Mc) : Prop := ∀ (d : Nat) (m : Mc), Mok d m → Mok d (f m).2
/-- what is done makes no fuel -/
def Fle (f : Mc → Nat × Mc) : Prop := ∀ m : Mc, (f m).2.fuel ≤ m.fuel
theorem spend_fuel (m : Mc) : m.spend.2.fuel ≤ m.fuel ∧ (m.spend.1 = true → m.spend.2.fuel + 1 ≤ m.fuel) := by
  unfold Mc.spend
  have hr : m.rest.fuel = m.fuel := by unfold Mc.rest; split; exact (endM_words m 1 0).2.1; rfl
  cases ho : m.rest.over with
  | true => rw [if_pos rfl]; exact ⟨by rw [hr]; exact Nat.le_refl _, fun h => by cases h⟩
  | false =>
    obtain ⟨hf, _⟩ := rest_fuel ho
    rw [if_neg (by simp)]
    exact ⟨by show m.rest.fuel - 1 ≤ _; omega, fun _ => by show m.rest.fuel - 1 + 1 ≤ _; omega⟩
theorem tell_fuel (m : Mc) (c v : Nat) : (m.tell c v).fuel = m.fuel := by unfold Mc.tell; split <;> rfl
theorem stop_fuel (m : Mc) (c : Nat) : (m.stop c).fuel = m.fuel := by unfold Mc.stop; rw [(endM_words _ _ _).2.1, tell_fuel]
theorem next_fuel (m : Mc) : m.next.2.fuel = m.fuel := by unfold Mc.next; split <;> rfl
theorem ask_fle : Fle Mc.ask := fun m => by
  unfold Mc.ask
  split
  · exact (spend_fuel m).1
  · show (Mc.tell _ _ _).fuel ≤ _
    rw [tell_fuel, next_fuel]
    exact (spend_fuel m).1
theorem index_fle {f : Mc → Nat × Mc} (hf : Fle f) (v : Vr) (m : Mc) : (Mc.index f v m).2.fuel ≤ m.fuel := by
  unfold Mc.index
  split
  · show (Mc.stop _ _).fuel ≤ _
    rw [stop_fuel]; exact hf m
  · exact hf m
theorem elem_fle {f : Mc → Nat × Mc} (hf : Fle f) (v : Vr) : Fle (Mc.elem f v) := fun m => by
  have h := index_fle hf v m
  unfold Mc.elem
  generalize Mc.index f v m = q at *
  obtain ⟨o, m1⟩ := q
  cases o <;> exact h
theorem opr2_fle {f : Mc → Nat × Mc} (hf : Fle f) (op : Tx) (a : Nat) (m : Mc) : (Mc.opr2 f op a m).2.fuel ≤ m.fuel := by
  unfold Mc.opr2
  split
  · show (Mc.endM _ _ _).fuel ≤ _
    rw [(endM_words _ _ _).2.1]; exact hf m
  · exact hf m
theorem opr_fle {fl fr : Mc → Nat × Mc} (hl : Fle fl) (hr : Fle fr) (op : Tx) : Fle (Mc.opr fl fr op) := fun m => by
  unfold Mc.opr
  split
  · exact hl m
  · split
    · exact hl m
    · exact Nat.le_trans (opr2_fle hr op _ _) (hl m)
theorem mx_fle : ∀ (e : Ex), Fle (mxF e)
  | ⟨k, v, vr, op, l, r, dp⟩ => by
    have hl : Fle (mxO l) := by
      match l with
      | none => exact fun m => Nat.le_refl _
      | some e => exact mx_fle e
    have hr : Fle (mxO r) := by
      match r with
      | none => exact fun m => Nat.le_refl _
      | some e => exact mx_fle e
    intro m
    rw [mxF_eq]
    split
    · exact Nat.le_refl _
    · split
      · exact ask_fle m
      · split
        · exact Nat.le_refl _
        · split
          · exact elem_fle hl vr m
          · split
            · exact hl m
            · exact opr_fle hl hr op m
theorem mxO_fle (o : Option Ex) : Fle (mxO o) := by
  cases o with
  | none => exact fun m => Nat.le_refl _
  | some e => exact mx_fle e
theorem asn_fle (v : Vr) (i x : Option Ex) (m : Mc) : (m.assign v i x).fuel ≤ m.fuel := by
  unfold Mc.assign
  cases i with
  | none => exact mxO_fle x m
  | some i =>
    have h := index_fle (mx_fle i) v m
    simp only
    generalize Mc.index (mxF i) v m = q at *
    obtain ⟨o, m1⟩ := q
    cases o with
    | none => exact h
    | some k => exact Nat.le_trans (mxO_fle x m1) h
theorem wh_fle {cond body : Mc → Nat × Mc} (hc : Fle cond) (hb : Fle body) : ∀ (n : Nat) (m : Mc), (whF cond body n m).fuel ≤ m.fuel
  | 0, m => Nat.le_refl _
  | n + 1, m => by
    have h1 := (spend_fuel m).1
    unfold whF
    split
    · exact h1
    · split
      · exact Nat.le_trans (hc _) h1
      · split
        · exact Nat.le_trans (Nat.le_trans (hb _) (hc _)) h1
        · exact Nat.le_trans (wh_fle hc hb n _) (Nat.le_trans (Nat.le_trans (hb _) (hc _)) h1)
theorem stm_fle (word : Tx) (v : Vr) (i x : Option Ex) {fb fr : Mc → Nat × Mc} (hb : Fle fb) (hr : Fle fr) : Fle (Mc.stm word v i x fb fr) := fun m => by
  have h1 := (spend_fuel m).1
  have hx := Nat.le_trans (mxO_fle x m.spend.2) h1
  unfold Mc.stm
  split
  · exact hb m
  · split
    · exact h1
    · split
      · exact Nat.le_trans (asn_fle v i x _) h1
      · split
        · split
          · exact Nat.le_trans (hb _) hx
          · exact Nat.le_trans (hr _) hx
        · split
          · exact Nat.le_trans (wh_fle (mxO_fle x) hb _ _) h1
          · split
            · show (Mc.tell _ _ _).fuel ≤ _
              rw [tell_fuel]; exact hx
            · split
              · show (Mc.stop _ _).fuel ≤ _
                rw [stop_fuel]; exact hx
              · split
                · show (Mc.tell _ _ _).fuel ≤ _
                  rw [tell_fuel]; exact h1
                · split
                  · exact h1
                  · split <;> exact h1
theorem put_ok {d : Nat} {m : Mc} (h : Mok d m) (k v : Nat) (hv : v ≤ 4294967295) : Mok d (m.put k v) :=
  ⟨by show (m.words.set k v).length = 96; rw [List.length_set]; exact h.wl, fun x hx => by
    rcases List.mem_or_eq_of_mem_set hx with hx | rfl
    · exact h.wb x hx
    · exact hv, h.ab, h.u, h.t, h.o⟩
theorem asn_ok (v : Vr) (i x : Option Ex) (hi : exOK i) (hx : exOK x) {d : Nat} {m : Mc} (h : Mok d m) : Mok d (m.assign v i x) := by
  unfold Mc.assign
  cases i with
  | none =>
    obtain ⟨h1, h2⟩ := mxO_ok x hx d m h
    exact put_ok h1 _ _ h2
  | some i =>
    have h0 := (index_ok (mx_ok i hi) v h).1
    simp only
    generalize Mc.index (mxF i) v m = q at *
    obtain ⟨o, m1⟩ := q
    cases o with
    | none => exact h0
    | some k =>
      obtain ⟨h1, h2⟩ := mxO_ok x hx d m1 h0
      exact put_ok h1 _ _ h2
theorem wh_ok {cond body : Mc → Nat × Mc} (hc : MxK cond) (hb : MsK body) : ∀ (n : Nat) {d : Nat} {m : Mc}, Mok d m → Mok d (whF cond body n m)
  | 0, d, m, h => h
  | n + 1, d, m, h => by
    have h1 := (mok_spend h).1
    unfold whF
    split
    · exact h1
    · have h2 := (hc d _ h1).1
      split
      · exact h2
      · have h3 := hb d _ h2
        split
        · exact h3
        · exact wh_ok hc hb n h3
theorem stm_ok (word : Tx) (v : Vr) (i x : Option Ex) {fb fr : Mc → Nat × Mc} (hi : exOK i) (hx : exOK x) (hb : MsK fb) (hr : MsK fr) : MsK (Mc.stm word v i x fb fr) := fun d m h => by
  obtain ⟨h1, h2⟩ := mok_spend h
  unfold Mc.stm
  split
  · exact hb d m h
  · split
    · exact h1
    · next hs =>
      have h3 := h2 (by simpa using hs)
      obtain ⟨k1, k2⟩ := mxO_ok x hx d _ h1
      obtain ⟨j1, j2⟩ := mxO_ok x hx (d + 1) _ h3
      split
      · exact asn_ok v i x hi hx h1
      · split
        · split
          · exact hb d _ k1
          · exact hr d _ k1
        · split
          · exact wh_ok (mxO_ok x hx) hb _ h1
          · split
            · exact mok_tell j1 _ _
            · split
              · exact mok_stop k1 _
              · split
                · exact mok_tell h3 _ _
                · split
                  · exact h1
                  · split <;> exact h1
/-- statements as a list -/
def ms1 (s : Sl) (m : Mc) : Nat × Mc := Mc.stm s.word s.var s.idx s.val (maO s.body) (maO s.rest) m
def runL : List Sl → Mc → Nat × Mc
  | [], m => (0, m)
  | s :: l, m => if (ms1 s m).1 ≠ 0 then ms1 s m else runL l (ms1 s m).2
theorem ms_left : ∀ (s : Sl) (p : Nat × Mc), p.1 ≠ 0 → slF msF s p = p
  | ⟨word, v, idx, val, body, oth, rest, next⟩, p, h => by
    rw [slF_eq]
    have e : msF word v idx val oth (slFO msF body) (slFO msF rest) p = p := by unfold msF; rw [if_pos h]
    show slFO msF next (msF word v idx val oth (slFO msF body) (slFO msF rest) p) = p
    rw [e]
    match next with
    | none => rfl
    | some t => exact ms_left t p h
theorem ma_step (s : Sl) (m : Mc) : slF msF s (0, m) = slFO msF s.next (ms1 s m) := by
  rw [slF_eq]
  rfl
theorem ma_run : ∀ (b : Sl) (m : Mc), maO (some b) m = runL (slL b) m
  | ⟨word, v, idx, val, body, oth, rest, next⟩, m => by
    show slF msF _ (0, m) = _
    rw [ma_step, slL_eq]
    show slFO msF next (ms1 _ m) = if (ms1 ⟨word, v, idx, val, body, oth, rest, next⟩ m).1 ≠ 0 then _ else _
    generalize ms1 ⟨word, v, idx, val, body, oth, rest, next⟩ m = p
    obtain ⟨a, m1⟩ := p
    by_cases h : a = 0
    · subst h
      rw [if_neg (by simp)]
      match next with
      | none => rfl
      | some t => exact ma_run t m1
    · rw [if_pos h]
      match next with
      | none => rfl
      | some t => exact ms_left t _ h
theorem run_fle : ∀ (l : List Sl), (∀ s ∈ l, Fle (ms1 s)) → Fle (runL l)
  | [], _ => fun m => Nat.le_refl _
  | s :: l, h => fun m => by
    have h1 := h s List.mem_cons_self m
    unfold runL
    split
    · exact h1
    · exact Nat.le_trans (run_fle l (fun s hs => h s (List.mem_cons_of_mem _ hs)) _) h1
theorem run_ok : ∀ (l : List Sl), (∀ s ∈ l, MsK (ms1 s)) → MsK (runL l)
  | [], _ => fun d m h => h
  | s :: l, h => fun d m hm => by
    have h1 := h s List.mem_cons_self d m hm
    unfold runL
    split
    · exact h1
    · exact run_ok l (fun s hs => h s (List.mem_cons_of_mem _ hs)) d _ h1
theorem ma_none : maO none = fun m => (0, m) := rfl
theorem ms_fle : ∀ (b : Sl), ∀ s ∈ slL b, Fle (ms1 s)
  | ⟨word, v, idx, val, body, oth, rest, next⟩, s, hs => by
    rw [slL_eq] at hs
    rcases List.mem_cons.1 hs with rfl | hs
    · refine stm_fle _ _ _ _ ?_ ?_
      · match body with
        | none => exact fun m => Nat.le_refl _
        | some t => exact fun m => by show (maO (some t) m).2.fuel ≤ _; rw [ma_run]; exact run_fle _ (ms_fle t) m
      · match rest with
        | none => exact fun m => Nat.le_refl _
        | some t => exact fun m => by show (maO (some t) m).2.fuel ≤ _; rw [ma_run]; exact run_fle _ (ms_fle t) m
    · match next, hs with
      | none, hs => simp [slLO] at hs
      | some t, hs => exact ms_fle t s hs
theorem ma_fle (o : Option Sl) : Fle (maO o) := by
  cases o with
  | none => exact fun m => Nat.le_refl _
  | some b => exact fun m => by rw [ma_run]; exact run_fle _ (ms_fle b) m
theorem ms_ok : ∀ (b : Sl), slK b → ∀ s ∈ slL b, MsK (ms1 s)
  | ⟨word, v, idx, val, body, oth, rest, next⟩, h, s, hs => by
    obtain ⟨_, _, _, _, h5, h6, h7, h8, h9⟩ := slK_of h
    rw [slL_eq] at hs
    rcases List.mem_cons.1 hs with rfl | hs
    · refine stm_ok _ _ _ _ h5 h6 ?_ ?_
      · match body, h7 with
        | none, _ => exact fun d m h => h
        | some t, h7 => exact fun d m h => by show Mok d (maO (some t) m).2; rw [ma_run]; exact run_ok _ (ms_ok t h7) d m h
      · match rest, h8 with
        | none, _ => exact fun d m h => h
        | some t, h8 => exact fun d m h => by show Mok d (maO (some t) m).2; rw [ma_run]; exact run_ok _ (ms_ok t h8) d m h
    · match next, h9, hs with
      | none, _, hs => simp [slLO] at hs
      | some t, h9, hs => exact ms_ok t h9 s hs
theorem ma_ok (o : Option Sl) (h : slOK o) : MsK (maO o) := by
  cases o with
  | none => exact fun d m h => h
  | some b => exact fun d m hm => by rw [ma_run]; exact run_ok _ (ms_ok b h) d m hm
end Go.Proofs.YtiafodeabdhcoaaGreatDoor

namespace Go.Proofs.YtiafodeabdhcoaaGreatDoor
open Go.RowKit
/-- what stays when nothing is spent any more -/
structure Fz (m m' : Mc) : Prop where
  v : m'.over = true
  o : m'.outs = m.outs
  s : m'.state = m.state
  c : m'.code = m.code
  t : m'.taken = m.taken
  u : m'.used = m.used
structure Gw (m m' : Mc) : Prop where
  o : ∃ t, m'.outs = m.outs ++ t
  t : m.taken ≤ m'.taken
theorem Gw.refl (m : Mc) : Gw m m := ⟨⟨[], by simp⟩, Nat.le_refl _⟩
theorem Gw.trans {a b c : Mc} (h : Gw a b) (k : Gw b c) : Gw a c := by
  obtain ⟨t, e⟩ := h.o
  obtain ⟨t', e'⟩ := k.o
  exact ⟨⟨t ++ t', by rw [e', e, List.append_assoc]⟩, Nat.le_trans h.t k.t⟩
theorem Fz.refl {m : Mc} (h : m.over = true) : Fz m m := ⟨h, rfl, rfl, rfl, rfl, rfl⟩
theorem Fz.trans {a b c : Mc} (h : Fz a b) (k : Fz b c) : Fz a c := ⟨k.v, k.o.trans h.o, k.s.trans h.s, k.c.trans h.c, k.t.trans h.t, k.u.trans h.u⟩
/-- alike but for the fuel -/
structure SA (d F : Nat) (m n : Mc) : Prop where
  e : n = { m with fuel := m.fuel + d }
  s : m.over = true → m.state ≠ 1
  u : m.used + m.fuel = F
/-- the first rests -/
structure SB (F : Nat) (m n : Mc) : Prop where
  v : m.over = true
  s : m.state = 1
  c : m.code = 0
  u : m.used = F
  o : ∃ t, n.outs = m.outs ++ t
  t : m.taken ≤ n.taken
theorem SB.step {F : Nat} {m n m' n' : Mc} (h : SB F m n) (hz : Fz m m') (hg : Gw n n') : SB F m' n' := by
  obtain ⟨t, e⟩ := h.o
  obtain ⟨t', e'⟩ := hg.o
  exact ⟨hz.v, hz.s.trans h.s, hz.c.trans h.c, hz.u.trans h.u, ⟨t ++ t', by rw [e', e, hz.o, List.append_assoc]⟩, by rw [hz.t]; exact Nat.le_trans h.t hg.t⟩
/-- what is done goes on so with more fuel -/
structure Gd (d F : Nat) {α : Type} (f : Mc → α × Mc) : Prop where
  z : ∀ m : Mc, m.over = true → Fz m (f m).2
  g : ∀ m : Mc, Gw m (f m).2
  s : ∀ m n : Mc, SA d F m n → (SA d F (f m).2 (f n).2 ∧ (f n).1 = (f m).1) ∨ SB F (f m).2 (f n).2
section
variable {d F : Nat} {α β : Type}
theorem Gd.bind {f : Mc → α × Mc} {k : α → Mc → β × Mc} (hf : Gd d F f) (hk : ∀ a, Gd d F (k a)) : Gd d F (fun m => k (f m).1 (f m).2) where
  z m hm := (hf.z m hm).trans ((hk _).z _ (hf.z m hm).v)
  g m := (hf.g m).trans ((hk _).g _)
  s m n h := by
    rcases hf.s m n h with ⟨h1, h2⟩ | h1
    · rw [h2]
      exact (hk _).s _ _ h1
    · exact .inr (h1.step ((hk _).z _ h1.v) ((hk _).g _))
theorem Gd.ret (a : α) : Gd d F (fun m => (a, m)) := ⟨fun _ h => Fz.refl h, fun m => Gw.refl m, fun _ _ h => .inl ⟨h, rfl⟩⟩
theorem Gd.get (f : Mc → α) (hf : ∀ (m : Mc) (k : Nat), f { m with fuel := k } = f m) : Gd d F (fun m => (f m, m)) := ⟨fun _ h => Fz.refl h, fun m => Gw.refl m, fun m n h => .inl ⟨h, by show f n = f m; rw [h.e, hf]⟩⟩
theorem Gd.ite {p : Prop} [Decidable p] {f g : Mc → α × Mc} (hf : Gd d F f) (hg : Gd d F g) : Gd d F (fun m => if p then f m else g m) := by
  by_cases h : p
  · simpa [h] using hf
  · simpa [h] using hg
theorem gd_end (a : α) (st cd : Nat) (h1 : st ≠ 1) : Gd d F (fun m => (a, m.endM st cd)) where
  z m hm := by show Fz m (m.endM st cd); rw [(endM_words m st cd).2.2.2.2.2.2.1 hm]; exact Fz.refl hm
  g m := by obtain ⟨_, _, _, e4, e5, _⟩ := endM_words m st cd; exact ⟨⟨[], by show (m.endM st cd).outs = _; rw [e5]; simp⟩, by show m.taken ≤ (m.endM st cd).taken; rw [e4]; exact Nat.le_refl _⟩
  s m n h := by
    refine .inl ⟨?_, rfl⟩
    obtain ⟨he, hs, hu⟩ := h
    obtain ⟨o, sa, co, tk, us, ws, an, fu, ov⟩ := m
    subst he
    cases ov with
    | true => exact ⟨rfl, hs, hu⟩
    | false => exact ⟨rfl, fun _ => h1, hu⟩
theorem gd_tell (a : α) (c v : Nat) : Gd d F (fun m => (a, m.tell c v)) where
  z m hm := by show Fz m (m.tell c v); unfold Mc.tell; rw [if_pos hm]; exact Fz.refl hm
  g m := by
    show Gw m (m.tell c v)
    unfold Mc.tell
    split
    · exact Gw.refl m
    · exact ⟨⟨[(c, v)], rfl⟩, Nat.le_refl _⟩
  s m n h := by
    refine .inl ⟨?_, rfl⟩
    obtain ⟨he, hs, hu⟩ := h
    obtain ⟨o, sa, co, tk, us, ws, an, fu, ov⟩ := m
    subst he
    cases ov with
    | true => exact ⟨rfl, hs, hu⟩
    | false => exact ⟨rfl, fun e => (by cases e), hu⟩
theorem gd_put (a : α) (k v : Nat) : Gd d F (fun m => (a, m.put k v)) where
  z m hm := ⟨hm, rfl, rfl, rfl, rfl, rfl⟩
  g m := ⟨⟨[], by show m.outs = _; simp⟩, Nat.le_refl _⟩
  s m n h := by
    refine .inl ⟨?_, rfl⟩
    show SA d F (m.put k v) (n.put k v)
    rw [h.e]
    exact ⟨rfl, h.s, h.u⟩
theorem gd_stop (a : α) (c : Nat) : Gd d F (fun m => (a, m.stop c)) := Gd.bind (f := fun m => ((), m.tell 1 c)) (k := fun _ m => (a, m.endM 3 c)) (gd_tell () 1 c) (fun _ => gd_end a 3 c (by decide))
theorem spend_over {m : Mc} (h : m.over = true) : m.spend = (false, m) := by
  have hr : m.rest = m := by
    unfold Mc.rest
    split
    · exact (endM_words m 1 0).2.2.2.2.2.2.1 h
    · rfl
  unfold Mc.spend
  rw [hr, if_pos h]
theorem spend_done {m : Mc} (h : m.over = false) (hf : m.fuel = 0) : m.spend = (false, { m with over := true, state := 1, code := 0 }) := by
  obtain ⟨o, sa, co, tk, us, ws, an, fu, ov⟩ := m
  simp only at h hf
  subst h
  subst hf
  rfl
theorem spend_go {m : Mc} (h : m.over = false) (hf : m.fuel ≠ 0) : m.spend = (true, { m with fuel := m.fuel - 1, used := m.used + 1 }) := by
  have hr : m.rest = m := by unfold Mc.rest; rw [if_neg hf]
  unfold Mc.spend
  rw [hr, if_neg (by rw [h]; decide)]
theorem spend_gw (m : Mc) : Gw m m.spend.2 := by
  cases ho : m.over with
  | true => rw [spend_over ho]; exact Gw.refl m
  | false =>
    by_cases hf : m.fuel = 0
    · rw [spend_done ho hf]; exact ⟨⟨[], by show m.outs = _; simp⟩, Nat.le_refl _⟩
    · rw [spend_go ho hf]; exact ⟨⟨[], by show m.outs = _; simp⟩, Nat.le_refl _⟩
theorem gd_spend (hd : 0 < d) : Gd d F Mc.spend where
  z m hm := by rw [spend_over hm]; exact Fz.refl hm
  g m := spend_gw m
  s m n h := by
    cases ho : m.over with
    | true =>
      have hn : n.over = true := by rw [h.e]; exact ho
      rw [spend_over ho, spend_over hn]
      exact .inl ⟨h, rfl⟩
    | false =>
      have hn : n.over = false := by rw [h.e]; exact ho
      have hnf : n.fuel ≠ 0 := by rw [h.e]; show m.fuel + d ≠ 0; omega
      rw [spend_go hn hnf]
      by_cases hf : m.fuel = 0
      · rw [spend_done ho hf]
        refine .inr ⟨rfl, rfl, rfl, ?_, ⟨[], ?_⟩, ?_⟩
        · have := h.u; show m.used = F; omega
        · rw [h.e]; show m.outs = m.outs ++ []; simp
        · rw [h.e]; exact Nat.le_refl _
      · rw [spend_go ho hf]
        refine .inl ⟨⟨?_, fun e => ?_, ?_⟩, rfl⟩
        · rw [h.e]
          show ({ m with fuel := m.fuel + d - 1, used := m.used + 1 } : Mc) = { m with fuel := m.fuel - 1 + d, used := m.used + 1 }
          rw [show m.fuel + d - 1 = m.fuel - 1 + d by omega]
        · have : m.over = true := e
          rw [ho] at this; cases this
        · have := h.u; show m.used + 1 + (m.fuel - 1) = F; omega
/-- what is done behind a unit that was there -/
theorem gd_then (hd : 0 < d) {f : Mc → α × Mc} (a : α) (hg : ∀ m : Mc, Gw m (f m).2) (hs : ∀ m n : Mc, SA d F m n → (SA d F (f m).2 (f n).2 ∧ (f n).1 = (f m).1) ∨ SB F (f m).2 (f n).2) : Gd d F (fun m => if m.spend.1 = false then (a, m.spend.2) else f m.spend.2) where
  z m hm := by rw [spend_over hm]; exact Fz.refl hm
  g m := by
    have h1 := spend_gw m
    show Gw m (if m.spend.1 = false then (a, m.spend.2) else f m.spend.2).2
    split
    · exact h1
    · exact h1.trans (hg _)
  s m n h := by
    have h1 := (gd_spend (F := F) hd).s m n h
    show (SA d F (if m.spend.1 = false then (a, m.spend.2) else f m.spend.2).2 (if n.spend.1 = false then (a, n.spend.2) else f n.spend.2).2 ∧ (if n.spend.1 = false then (a, n.spend.2) else f n.spend.2).1 = (if m.spend.1 = false then (a, m.spend.2) else f m.spend.2).1) ∨ SB F (if m.spend.1 = false then (a, m.spend.2) else f m.spend.2).2 (if n.spend.1 = false then (a, n.spend.2) else f n.spend.2).2
    rcases h1 with ⟨h2, h3⟩ | h2
    · rw [h3]
      by_cases hb : m.spend.1 = false
      · rw [if_pos hb, if_pos hb]; exact .inl ⟨h2, rfl⟩
      · rw [if_neg hb, if_neg hb]; exact hs _ _ h2
    · -- it rests: the first has spent nothing
      have hm : m.spend.1 = false := by
        cases ho : m.over with
        | true => rw [spend_over ho]
        | false =>
          by_cases hf : m.fuel = 0
          · rw [spend_done ho hf]
          · have hv := h2.v
            rw [spend_go ho hf] at hv
            have : m.over = true := hv
            rw [ho] at this; cases this
      rw [if_pos hm]
      refine .inr ?_
      split
      · exact h2
      · exact h2.step (Fz.refl h2.v) (hg _)
theorem next_gw (m : Mc) : Gw m m.next.2 := by
  unfold Mc.next
  cases m.answers with
  | nil => exact Gw.refl m
  | cons a r => exact ⟨⟨[], by show m.outs = _; simp⟩, Nat.le_succ _⟩
theorem next_sa {m n : Mc} (h : SA d F m n) : SA d F m.next.2 n.next.2 ∧ n.next.1 = m.next.1 := by
  obtain ⟨he, hs, hu⟩ := h
  obtain ⟨o, sa, co, tk, us, ws, an, fu, ov⟩ := m
  subst he
  cases an with
  | nil => exact ⟨⟨rfl, hs, hu⟩, rfl⟩
  | cons a r => exact ⟨⟨rfl, hs, hu⟩, rfl⟩
theorem gd_ask (hd : 0 < d) : Gd d F Mc.ask :=
  gd_then hd (f := fun m => (m.next.1, m.next.2.tell 24 m.next.1)) 0 (fun m => (next_gw m).trans ((gd_tell (d := d) (F := F) () 24 m.next.1).g _)) (fun m n h => by
    obtain ⟨h1, h2⟩ := next_sa h
    rw [h2]
    rcases (gd_tell (d := d) (F := F) () 24 m.next.1).s _ _ h1 with ⟨h3, _⟩ | h3
    · exact .inl ⟨h3, rfl⟩
    · exact .inr h3)
theorem gd_index {f : Mc → Nat × Mc} (hf : Gd d F f) (v : Vr) : Gd d F (Mc.index f v) :=
  Gd.bind (k := fun x m => if v.size ≤ x then (none, m.stop 4294967295) else (some x, m)) hf (fun x => Gd.ite (gd_stop none _) (Gd.ret (some x)))
theorem gd_elem {f : Mc → Nat × Mc} (hf : Gd d F f) (v : Vr) : Gd d F (Mc.elem f v) := by
  have h := Gd.bind (k := fun (o : Option Nat) (m : Mc) => match o with | none => (0, m) | some i => (m.word (v.at' - 384 + i), m)) (gd_index hf v) (fun o => by
    cases o with
    | none => exact Gd.ret 0
    | some i => exact Gd.get (fun m => m.word (v.at' - 384 + i)) (fun _ _ => rfl))
  have e : Mc.elem f v = fun m => (fun (o : Option Nat) (m : Mc) => match o with | none => (0, m) | some i => (m.word (v.at' - 384 + i), m)) (Mc.index f v m).1 (Mc.index f v m).2 := by
    funext m
    unfold Mc.elem
    generalize Mc.index f v m = q
    obtain ⟨o, m1⟩ := q
    cases o <;> rfl
  rw [e]
  exact h
theorem gd_opr2 {f : Mc → Nat × Mc} (hf : Gd d F f) (op : Tx) (a : Nat) : Gd d F (Mc.opr2 f op a) :=
  Gd.bind (k := fun x m => if x = 0 ∧ divT op = true then (0, m.endM 4 73) else (apV op a x, m)) hf (fun x => Gd.ite (gd_end 0 4 73 (by decide)) (Gd.ret _))
theorem gd_opr {fl fr : Mc → Nat × Mc} (hl : Gd d F fl) (hr : Gd d F fr) (op : Tx) : Gd d F (Mc.opr fl fr op) :=
  Gd.bind (k := fun x m => if op = [38, 38] ∧ x = 0 then (0, m) else if op = [124, 124] ∧ x ≠ 0 then (1, m) else Mc.opr2 fr op x m) hl (fun x => Gd.ite (Gd.ret 0) (Gd.ite (Gd.ret 1) (gd_opr2 hr op x)))
theorem gd_mx (hd : 0 < d) : ∀ (e : Ex), Gd d F (mxF e)
  | ⟨k, v, vr, op, l, r, dp⟩ => by
    have hl : Gd d F (mxO l) := by
      match l with
      | none => exact Gd.ret 0
      | some e => exact gd_mx hd e
    have hr : Gd d F (mxO r) := by
      match r with
      | none => exact Gd.ret 0
      | some e => exact gd_mx hd e
    have e : mxF ⟨k, v, vr, op, l, r, dp⟩ = fun m => if k = 0 then (v, m) else if k = 1 then m.ask else if k = 2 then (m.word (vr.at' - 384), m) else if k = 3 then Mc.elem (mxO l) vr m else if k = 4 then (fun x m => (sgV op x, m)) (mxO l m).1 (mxO l m).2 else Mc.opr (mxO l) (mxO r) op m := by
      funext m
      rw [mxF_eq]
    rw [e]
    exact Gd.ite (Gd.ret v) (Gd.ite (gd_ask hd) (Gd.ite (Gd.get (fun m => m.word (vr.at' - 384)) (fun _ _ => rfl)) (Gd.ite (gd_elem hl vr) (Gd.ite (Gd.bind (k := fun x m => (sgV op x, m)) hl (fun x => Gd.ret _)) (gd_opr hl hr op)))))
theorem gd_mxO (hd : 0 < d) (o : Option Ex) : Gd d F (mxO o) := by
  cases o with
  | none => exact Gd.ret 0
  | some e => exact gd_mx hd e
theorem gd_asn (hd : 0 < d) (v : Vr) (i x : Option Ex) : Gd d F (fun m => (0, m.assign v i x)) := by
  cases i with
  | none => exact Gd.bind (k := fun a m => ((0 : Nat), m.put (v.at' - 384) a)) (gd_mxO hd x) (fun a => gd_put 0 _ a)
  | some i =>
    have h := Gd.bind (k := fun (o : Option Nat) (m : Mc) => match o with | none => ((0 : Nat), m) | some k => (fun a m => ((0 : Nat), m.put (v.at' - 384 + k) a)) (mxO x m).1 (mxO x m).2) (gd_index (gd_mx (F := F) hd i) v) (fun o => by
      cases o with
      | none => exact Gd.ret 0
      | some k => exact Gd.bind (k := fun a m => ((0 : Nat), m.put (v.at' - 384 + k) a)) (gd_mxO hd x) (fun a => gd_put 0 _ a))
    have e : (fun m : Mc => ((0 : Nat), m.assign v (some i) x)) = fun m => (fun (o : Option Nat) (m : Mc) => match o with | none => ((0 : Nat), m) | some k => (fun a m => ((0 : Nat), m.put (v.at' - 384 + k) a)) (mxO x m).1 (mxO x m).2) (Mc.index (mxF i) v m).1 (Mc.index (mxF i) v m).2 := by
      funext m
      unfold Mc.assign
      simp only
      generalize Mc.index (mxF i) v m = q
      obtain ⟨o, m1⟩ := q
      cases o <;> rfl
    rw [e]
    exact h
end
end Go.Proofs.YtiafodeabdhcoaaGreatDoor
