import Derived.Test.YtiafodeabdhcoaaGreatDoorM20
namespace Go.Proofs.YtiafodeabdhcoaaGreatDoor
open Go.RowKit
/-- what Data tells -/
def datT (s : Tx) : List Vr × Nat := if (ldT s).2.2 ≠ 0 then ([], (ldT s).2.2) else ((ldT s).1.1, 0)
def nmL (l : List Vr) : List Value := l.map fun v => .string ⟨v.name.toArray⟩
def adL (l : List Vr) : List Value := l.map fun v => .int .i64 (v.at' : Nat)
theorem info_in : ∃ i, Tryz.prog.info? 3 = some i ∧ i.zero = some (.int .i64 0) ∧ i.size = 1 ∧ i.bytes = 8 := info_parts (by kernel_rfl)
theorem own_ne {w : World} {b b' n n' k k' : Nat} {e e' : TypeId} {v v' : Value} {xs ys : List Value} (h : w.ownsRow b e k v n xs) (h' : w.ownsRow b' e' k' v' n' ys) (he : e ≠ e') : v'.ownBlock = none ∨ v'.ownBlock ≠ v.ownBlock := by
  obtain ⟨_, ⟨h1, _⟩ | ⟨g, cap, cur, h1, _, h3, _⟩⟩ := h
  · rw [h1]
    cases hv : v'.ownBlock with
    | none => exact .inl rfl
    | some k => exact .inr (fun e => by cases e)
  · obtain ⟨_, ⟨h4, _⟩ | ⟨g', cap', cur', h4, _, h6, _⟩⟩ := h'
    · rw [h4]; exact .inl rfl
    · rw [h1, h4]
      refine .inr (fun e => ?_)
      cases e
      have := h3.symm.trans h6
      cases this
      exact he rfl
theorem own_blk {w : World} {b n k : Nat} {e T : TypeId} {v : Value} {xs cs : List Value} {g : Nat} (h : w.ownsRow b e k v n xs) (hb : Blk w g T cs) (he : T ≠ e) : some g ≠ v.ownBlock := by
  obtain ⟨_, ⟨h1, _⟩ | ⟨g', cap, cur, h1, _, h3, _⟩⟩ := h
  · rw [h1]; intro e; cases e
  · rw [h1]
    intro e
    cases e
    have := h3.symm.trans hb.out
    cases this
    exact he rfl
theorem cell_one (w : World) (x : Value) (t : TypeId) : ∀ (j : Nat) (u : Value), [x][j]? = some u → (w.alloc (.cells #[x] t)).cell? ((⟨w.heap.size, 0, none⟩ : Addr).add j) = some u := by
  intro j u h
  cases j with
  | zero => simp at h; subst h; rw [add0, World.cell?_alloc_new]; rfl
  | succ j => simp at h
theorem decls_vars {ts : List Tk} (hv : ∀ t ∈ ts, t.val ≤ 4294967295) : ∀ (n : Nat) (r : Rd), (declsF ts n r).vars.length ≤ r.vars.length + n
  | 0, r => Nat.le_refl _
  | n + 1, r => by
    rw [decls_step]
    split
    · have h1 := decls_vars hv n (r.step.decl ts)
      have h2 := (decl_fr r.step hv).vars
      have h3 : r.step.vars = r.vars := rfl
      rw [h3] at h2
      omega
    · omega
theorem prog_vars {ts : List Tk} (hv : ∀ t ∈ ts, t.val ≤ 4294967295) : (progT ts).2.vars.length ≤ ts.length := by
  have h1 := decls_vars hv ts.length rd0
  have h0 : rd0.vars.length = 0 := rfl
  have h2 := (fr_ps (ts := ts) (4 * (ts.length - (declsF ts ts.length rd0).at') + 4) 0 (declsF ts ts.length rd0)).vars
  unfold progT
  simp only
  split
  · rw [h2]; omega
  · rw [(fr_refuse (ts := ts) _).vars, h2]; omega
theorem vars_le (s : Tx) : (ldT s).1.1.length ≤ 16385 := by
  unfold ldT
  split
  · simp
  · next hs =>
    split
    · simp
    · split
      · simp
      · show (readT s).1.1.length ≤ 16385
        have hT : TsOk s.length (tksT s) := cut_ts s _ _
        have h1 := prog_vars (ts := tksT s) (fun t ht => hT.val t ht)
        have h2 := hT.len
        unfold readT
        simp only
        split
        · simp
        · split
          · simp
          · split
            · simp
            · split
              · simp
              · show (progT (tksT s)).2.vars.length ≤ 16385
                omega
def DatPost (w : World) (q : List Vr × Nat) (e : Ending) (w' : World) : Prop := ∃ u1 u2, e = .returned (.tuple #[u1, u2, .int .i64 (q.2 : Nat)]) ∧ w'.ownsRow w.heap.size 9 1 u1 q.1.length (nmL q.1) ∧ w'.ownsRow w.heap.size 3 1 u2 q.1.length (adL q.1) ∧ Below w.heap.size w w'
theorem nm_step {l : List Vr} {k : Nat} {v : Vr} (h : l[k]? = some v) : nmL (l.take k) ++ [.string ⟨v.name.toArray⟩] = nmL (l.take (k + 1)) := by
  rw [List.take_add_one, h]; simp [nmL]
theorem ad_step {l : List Vr} {k : Nat} {v : Vr} (h : l[k]? = some v) : adL (l.take k) ++ [.int .i64 (v.at' : Nat)] = adL (l.take (k + 1)) := by
  rw [List.take_add_one, h]; simp [adL]
theorem below_own {w w' : World} {base B : Nat} {e : TypeId} {size : Nat} {v : Value} {n : Nat} {xs : List Value} (hO : w.ownsRow base e size v n xs) (hg : w.grownBy w' v.ownBlock) (hb : B ≤ base) (hB : B ≤ w.heap.size) : Below B w w' := by
  refine ⟨hg.os, hg.tape, hg.output, hg.size, fun k hk => hg.block k (by omega) (fun e => ?_)⟩
  have := (hO.lt k e.symm).1
  omega
theorem own_up {w w' : World} {base : Nat} {e : TypeId} {size : Nat} {v : Value} {n : Nat} {xs : List Value} (h : w.ownsRow base e size v n xs) (hb : Below w.heap.size w w') : w'.ownsRow base e size v n xs := by
  obtain ⟨h1, h2 | ⟨g, cap, cur, h2, h3, h4, h5⟩⟩ := h
  · exact ⟨h1, .inl h2⟩
  · exact ⟨h1, .inr ⟨g, cap, cur, h2, h3, (hb.block g (Array.getElem?_eq_some_iff.1 h4).1).trans h4, h5⟩⟩
set_option maxRecDepth 100000 in
set_option maxHeartbeats 8000000 in
theorem data_any (w : World) (s : Tx) (hs : s.length ≤ 4000000000000000000) (hG : Lg w) (h9 : 9 ≤ w.heap.size) : Calls Tryz.prog 17 #[.string ⟨s.toArray⟩] w (DatPost w (datT s)) := by
  have HL := hide (load_any w s hs hG h9)
  have HV : Hid (datT s = if (ldT s).2.2 ≠ 0 then ([], (ldT s).2.2) else ((ldT s).1.1, 0)) := hide rfl
  have hvl := vars_le s
  obtain ⟨q, hq⟩ : ∃ q, ldT s = q := ⟨_, rfl⟩
  rw [hq] at HL HV hvl
  obtain ⟨⟨vs, st, tx⟩, ln, er⟩ := q
  simp only at hvl
  clear hG hq
  go_enter Tryz.func17, Tryz.ntmps17
  go_wp2_with fail
  refine HL.out.mono ?_
  rintro e w2 ⟨av, cv, v, rfl, hrw, hls, hb2, htl, _⟩
  obtain ⟨v1, v2, v3, rfl⟩ := ls_shape hls
  have hb3 : Below w2.heap.size w2 (putB (w2.alloc (.cells #[.slice none 0 0, .slice none 0 0, .string ⟨#[]⟩] 57)) w2.heap.size (pgL av vs.length cv (.slice v1 v2 v3) tx) 57) := putB_below ((Below.refl _ _).alloc (Nat.le_refl _) _) (Nat.le_refl _) _ _
  have HZ3 : Hid (Blk (w2.alloc (.cells #[.slice none 0 0, .slice none 0 0, .string ⟨#[]⟩] 57)) w2.heap.size 57 [.slice none 0 0, .slice none 0 0, .string ⟨#[]⟩]) := hide ⟨heap_alloc_last _ _⟩
  have HP4 := hide (HZ3.out.put (pgL av vs.length cv (.slice v1 v2 v3) tx))
  have HB4 := hide (hb2.trans (hb3.mono hb2.size))
  have HR4 := hide (hrw.keep hb3)
  clear hb2 hb3 hrw hls HL
  go_upto_region 2 with (refine storeB (pgL av vs.length cv (.slice v1 v2 v3) tx) info_pgc rfl rfl _ _ rfl w2.heap.size rfl rfl _ HZ3.out rfl ?_)
  generalize hw4 : putB (w2.alloc (.cells #[.slice none 0 0, .slice none 0 0, .string ⟨#[]⟩] 57)) w2.heap.size (pgL av vs.length cv (.slice v1 v2 v3) tx) 57 = w4 at *
  clear hw4 HZ3
  by_cases he : er = 0
  · have hei : ((er : Int) != 0) = false := by simp; omega
    have hei2 : ((er : Int) == 0) = true := by simp; omega
    rw [if_neg (show ¬ (er ≠ 0) from fun h => h he)] at HV
    clear he
    have k0 := HP4.out.get (j := 0) rfl
    obtain ⟨N, hN⟩ : ∃ N, w4.heap.size = N := ⟨_, rfl⟩
    have hNw : w.heap.size ≤ N := by have := HB4.out.size; omega
    have HRN : Hid (∀ wr, Below N w4 wr → RwK wr av 4 vrL vs) := hide (fun wr hb => HR4.out.keep (by rw [hN]; exact hb))
    have HBN : Hid (∀ wr, Below N w4 wr → Below w.heap.size w wr) := hide (fun wr hb => HB4.out.trans (hb.mono hNw))
    have H0 : Hid (w4.ownsRow N 9 1 (.slice none 0 0) 0 (nmL (vs.take 0)) ∧ w4.ownsRow N 3 1 (.slice none 0 0) 0 (adL (vs.take 0)) ∧ Below N w4 w4 ∧ N ≤ w4.heap.size) := hide ⟨World.ownsRow_nil _ _ _ _, World.ownsRow_nil _ _ _ _, Below.refl _ _, by omega⟩
    clear hN
    go_wp2
    obtain ⟨i1, hi1, hz1, hsz1, hbt1⟩ := info_str
    obtain ⟨i2, hi2, hz2, hsz2, hbt2⟩ := info_in
    go_loopw [24, 8, 9] (fun i s1 s2 wr => ∃ k : Nat, k ≤ vs.length ∧ i = .int .i64 (k : Int) ∧ Hid (wr.ownsRow N 9 1 s1 k (nmL (vs.take k)) ∧ wr.ownsRow N 3 1 s2 k (adL (vs.take k)) ∧ Below N w4 wr ∧ N ≤ wr.heap.size)) (fun i _ _ _ => vs.length - (intOf i).toNat)
    case atStart => exact ⟨0, by omega, rfl, H0⟩
    case round =>
      obtain ⟨k, hk, rfl, HR⟩ := hrel
      by_cases hlt : k < vs.length
      · have hd : decide ((k : Int) < (vs.length : Int)) = true := by simp; omega
        obtain ⟨ad, rfl, hc⟩ := HRN.out _ HR.out.2.2.1 k hlt
        have HC := hide hc
        obtain ⟨vr, hvr⟩ : ∃ v, vs[k]? = some v := ⟨vs[k], by simp [hlt]⟩
        have hvr' : vs[k] = vr := by rw [List.getElem?_eq_getElem hlt] at hvr; exact Option.some.inj hvr
        rw [hvr'] at HC
        have HVR := hide hvr
        clear hc hvr hvr'
        obtain ⟨a1, c1, e1⟩ := own_shape HR.out.1
        obtain ⟨a2, c2, e2⟩ := own_shape HR.out.2.1
        subst e1 e2
        have HZ : Hid (Blk (wr.alloc (.cells #[.string ⟨#[]⟩, .bool false, .int .i64 0, .int .i64 0] 63)) wr.heap.size 63 [.string ⟨#[]⟩, .bool false, .int .i64 0, .int .i64 0]) := hide ⟨heap_alloc_last _ _⟩
        go_upto_region 9 with (first | (refine loadT Tryz.underlying63 rfl (vrL vr) info_vr rfl _ rfl (ad.add (k * 4)) rfl HC.out ?_) | (refine storeB (vrL vr) info_vr rfl rfl _ _ rfl wr.heap.size rfl rfl _ HZ.out rfl ?_))
        simp only [Act.put]
        have hbx : Below wr.heap.size wr (putB (wr.alloc (.cells #[.string ⟨#[]⟩, .bool false, .int .i64 0, .int .i64 0] 63)) wr.heap.size (vrL vr) 63) := putB_below ((Below.refl _ _).alloc (Nat.le_refl _) _) (Nat.le_refl _) _ _
        have HB5 := hide (HZ.out.put (vrL vr))
        have HX5 : Hid (_ ∧ _ ∧ _ ∧ _) := hide ⟨own_up HR.out.1 hbx, own_up HR.out.2.1 hbx, HR.out.2.2.1.trans (hbx.mono HR.out.2.2.2), Nat.le_trans HR.out.2.2.2 hbx.size⟩
        have hlo : N ≤ wr.heap.size := HR.out.2.2.2
        clear HZ HC hbx HR
        generalize hw5 : putB (wr.alloc (.cells #[.string ⟨#[]⟩, .bool false, .int .i64 0, .int .i64 0] 63)) wr.heap.size (vrL vr) 63 = w5 at *
        clear hw5
        obtain ⟨eB, hE⟩ : ∃ eB, wr.heap.size = eB := ⟨_, rfl⟩
        rw [hE] at HB5 hlo
        rw [hE]
        clear hE
        have d0 := HB5.out.get (j := 0) rfl
        have hb6 : Below w5.heap.size w5 (w5.alloc (.cells #[.string ⟨vr.name.toArray⟩] 9)) := (Below.refl _ _).alloc (Nat.le_refl _) _
        have HO6 := hide (own_up HX5.out.1 hb6)
        have HX6 : Hid (_ ∧ _ ∧ _ ∧ _) := hide ⟨own_up HX5.out.2.1 hb6, HX5.out.2.2.1.trans (hb6.mono HX5.out.2.2.2), Nat.le_trans HX5.out.2.2.2 hb6.size, HB5.out.below hb6 HB5.out.lt⟩
        clear HX5 HB5 hb6
        go_upto_region 10 with (at_builtin; refine wpList_append_own _ rfl _ _ 47 rfl N 9 i1 (.string ⟨#[]⟩) 1 16 Tryz.underlying47 hi1 hz1 hsz1 hbt1 rfl (by decide) _ _ _ rfl HO6.out ⟨w5.heap.size, 0, none⟩ 1 1 [.string ⟨vr.name.toArray⟩] rfl rfl (cell_one _ _ _) (by simp [Value.oneCell']) (by unfold maxLen; omega) (by omega) HX6.out.2.2.1 ?_; intro v7 w7 ho7 hg7 _; obtain ⟨a7, c7, rfl⟩ := own_shape ho7)
        clear d0
        have hne : (Value.slice a2 k c2).ownBlock = none ∨ (Value.slice a2 k c2).ownBlock ≠ (Value.slice a1 k c1).ownBlock := own_ne HO6.out HX6.out.1 (by decide)
        have HN7 : Hid (w7.ownsRow N 9 1 (.slice a7 (k + 1) c7) (k + 1) (nmL (vs.take (k + 1)))) := hide (by rw [← nm_step HVR.out]; exact ho7)
        have hb7 : Below N w4 w7 := HX6.out.2.1.trans (below_own HO6.out hg7 (Nat.le_refl _) HX6.out.2.2.1)
        have hlt5 : eB < (w5.alloc (.cells #[.string ⟨vr.name.toArray⟩] 9)).heap.size := HX6.out.2.2.2.lt
        have HX7 : Hid (w7.ownsRow N 3 1 (.slice a2 k c2) k (adL (vs.take k)) ∧ Below N w4 w7 ∧ N ≤ w7.heap.size ∧ Blk w7 eB 63 (vrL vr)) := hide ⟨World.ownsRow.kept HX6.out.1 hg7 hne, hb7, Nat.le_trans HX6.out.2.2.1 hg7.size, ⟨(hg7.block eB hlt5 (own_blk HO6.out HX6.out.2.2.2 (by decide))).trans HX6.out.2.2.2.out⟩⟩
        clear ho7 hg7 hb7 hne HO6 HX6 hlt5
        have d3 := HX7.out.2.2.2.get (j := 3) rfl
        have hb8 : Below w7.heap.size w7 (w7.alloc (.cells #[.int .i64 (vr.at' : Nat)] 3)) := (Below.refl _ _).alloc (Nat.le_refl _) _
        have HO8 := hide (own_up HX7.out.1 hb8)
        have HX8 : Hid (_ ∧ _ ∧ _) := hide ⟨own_up HN7.out hb8, HX7.out.2.1.trans (hb8.mono HX7.out.2.2.1), Nat.le_trans HX7.out.2.2.1 hb8.size⟩
        clear HX7 HN7 hb8
        go_wp2_with (at_builtin; refine wpList_append_own _ rfl _ _ 48 rfl N 3 i2 (.int .i64 0) 1 8 Tryz.underlying48 hi2 hz2 hsz2 hbt2 rfl (by decide) _ _ _ rfl HO8.out ⟨w7.heap.size, 0, none⟩ 1 1 [.int .i64 (vr.at' : Nat)] rfl rfl (cell_one _ _ _) (by simp [Value.oneCell']) (by unfold maxLen; omega) (by omega) HX8.out.2.2 ?_; intro v9 w9 ho9 hg9 _; obtain ⟨a9, c9, rfl⟩ := own_shape ho9)
        clear d3
        have hne : (Value.slice a7 (k + 1) c7).ownBlock = none ∨ (Value.slice a7 (k + 1) c7).ownBlock ≠ (Value.slice a2 k c2).ownBlock := own_ne HO8.out HX8.out.1 (by decide)
        have HN : Hid (w9.ownsRow N 9 1 (.slice a7 (k + 1) c7) (k + 1) (nmL (vs.take (k + 1))) ∧ w9.ownsRow N 3 1 (.slice a9 (k + 1) c9) (k + 1) (adL (vs.take (k + 1))) ∧ Below N w4 w9 ∧ N ≤ w9.heap.size) := hide ⟨World.ownsRow.kept HX8.out.1 hg9 hne, by rw [← ad_step HVR.out]; exact ho9, HX8.out.2.1.trans (below_own HO8.out hg9 (Nat.le_refl _) HX8.out.2.2), Nat.le_trans HX8.out.2.2 hg9.size⟩
        clear ho9 hg9 hne HO8 HX8
        go_roundw
        case rel => exact ⟨k + 1, by omega, by go_num, HN⟩
        case measure => simp [intOf]; omega
      · have hd : decide ((k : Int) < (vs.length : Int)) = false := by simp; omega
        obtain rfl : k = vs.length := by omega
        rw [List.take_length] at HR
        clear H0
        go_wp2
        go_ret3
        rw [HV.out]
        exact ⟨_, _, rfl, own_base HR.out.1 hNw, own_base HR.out.2.1 hNw, HBN.out _ HR.out.2.2.1⟩
  · have hei : ((er : Int) != 0) = true := by simp; omega
    have hei2 : ((er : Int) == 0) = false := by simp; omega
    rw [if_pos he] at HV
    clear he
    go_wp2
    go_ret3
    rw [HV.out]
    exact ⟨.slice none 0 0, .slice none 0 0, rfl, World.ownsRow_nil _ _ _ _, World.ownsRow_nil _ _ _ _, HB4.out⟩
end Go.Proofs.YtiafodeabdhcoaaGreatDoor
