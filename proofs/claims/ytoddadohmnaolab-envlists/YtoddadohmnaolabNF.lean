import Derived.Test.YtoddadohmnaolabNE
namespace Go.Proofs.Ytoddadohmnaolab
open Go.ChangeShapes Go.WideShapes Go.ChangeAt Go.RowKit Go.Deep Go.Shelf Go.Great

/-- where EnvLists stands: the table as it was, rows apart, and one block kept -/
structure Ls (w0 : World) (F : Nat → Prop) (T B : Nat) (rs : List (Option Er)) (last : Int) (W : Option (Nat × Obj)) (R : List (Value × Nat × List Value)) (x : World) : Prop where
  ns : Ns w0 F T B rs last
  rw : Rw w0.heap.size R x
  bel : Below w0.heap.size w0 x
  kp : ∀ b o, W = some (b, o) → x.heap[b]? = some o ∧ ∀ (i : Nat) p, R[i]? = some p → p.1.ownBlock ≠ some b
def nT (rs : List (Option Er)) : Nat := (wk rs 17 0).length
def lT (rs : List (Option Er)) : List Int := (wk rs 17 0).map (fun k : Nat => (k : Int))
def nK (rs : List (Option Er)) : Nat := (kids rs 0).length
def lK (rs : List (Option Er)) : List Int := (kids rs 0).map (fun k : Nat => (k : Int))
def nV (rs : List (Option Er)) : Nat := (lvL rs).length
def lV (rs : List (Option Er)) : List Int := (lvL rs).map (fun k : Nat => (k : Int))
section
variable {w0 : World} {F : Nat → Prop} {T B : Nat} {rs : List (Option Er)} {last : Int} {W : Option (Nat × Obj)} {R : List (Value × Nat × List Value)} {x x' : World}
theorem Ls.et (h : Ls w0 F T B rs last W R x) : Et x F T rs last := h.ns.et.below h.bel
theorem Ls.below (h : Ls w0 F T B rs last W R x) (hb : Below x.heap.size x x') : Ls w0 F T B rs last W R x' :=
  ⟨h.ns, h.rw.below hb, h.bel.trans (hb.mono h.bel.size), fun b o hW => ⟨(hb.block b (Array.getElem?_eq_some_iff.1 (h.kp b o hW).1).1).trans (h.kp b o hW).1, (h.kp b o hW).2⟩⟩
theorem Ls.new (h : Ls w0 F T B rs last W R x) (hb : Below x.heap.size x x') {v : Value} {n : Nat} {xs : List Value} (ho : x'.ownsRow x.heap.size 3 1 v n xs) : Ls w0 F T B rs last W ((v, n, xs) :: R) x' := by
  have h2 := h.below hb
  refine ⟨h.ns, h.rw.new h2.rw ho, h2.bel, fun b o hW => ⟨(h2.kp b o hW).1, fun i p hp => ?_⟩⟩
  cases i with
  | zero =>
    simp at hp
    subst hp
    intro e
    have h9 := (ho.lt b e).1
    have h8 := (Array.getElem?_eq_some_iff.1 (h.kp b o hW).1).1
    omega
  | succ i => exact (h2.kp b o hW).2 i p (by simpa using hp)
theorem Ls.mark (h : Ls w0 F T B rs last W R x) {i : Nat} {v v' : Value} {n n' : Nat} {xs xs' : List Value} (hp : R[i]? = some (v, n, xs)) (ho : x'.ownsRow w0.heap.size 3 1 v' n' xs') (hg : x.grownBy x' v.ownBlock) (hv : v'.ownBlock = v.ownBlock ∨ ∃ b, v'.ownBlock = some b ∧ x.heap.size ≤ b) : Ls w0 F T B rs last W (R.set i (v', n', xs')) x' := by
  have hil : i < R.length := (List.getElem?_eq_some_iff.1 hp).1
  refine ⟨h.ns, h.rw.mark hp ho hg hv, h.rw.bel hp h.bel hg, fun b o hW => ⟨?_, fun j p hj e => ?_⟩⟩
  · obtain ⟨h1, h2⟩ := h.kp b o hW
    exact (hg.block b (Array.getElem?_eq_some_iff.1 h1).1 (fun e => h2 i _ hp e.symm)).trans h1
  · obtain ⟨h1, h2⟩ := h.kp b o hW
    by_cases e2 : i = j
    · subst e2
      rw [List.getElem?_set_self hil] at hj
      cases hj
      rcases hv with e3 | ⟨b', e3, e4⟩
      · exact h2 i _ hp (e3 ▸ e)
      · simp only [] at e
        rw [e3] at e
        cases e
        have := (Array.getElem?_eq_some_iff.1 h1).1
        omega
    · rw [List.getElem?_set_ne e2] at hj
      exact h2 j p hj e
theorem Ls.keeps (h : Ls w0 F T B rs last none R x) {b : Nat} {o : Obj} (hb : Below x.heap.size x x') (hx : x'.heap[b]? = some o) (hn : x.heap.size ≤ b) : Ls w0 F T B rs last (some (b, o)) R x' := by
  have h2 := h.below hb
  refine ⟨h.ns, h2.rw, h2.bel, fun b' o' hW => ?_⟩
  cases hW
  refine ⟨hx, fun i p hp e => ?_⟩
  have := ((h.rw.row i p hp).lt b e).2
  omega
theorem tree_ls (h : Ls w0 F T B rs last W R x) : Calls Try.prog 17 #[.pointer (some ⟨T, 0, none⟩), .int .i64 0] x fun y x' => ∃ a c, y = .returned (.tuple #[.slice a (nT rs) c, .int .i64 0]) ∧ Ls w0 F T B rs last W ((.slice a (nT rs) c, nT rs, nums (lT rs)) :: R) x' := by
  refine (treeT_any h.et h.ns.iv 0 (root_lv h.ns.iv.tr)).mono ?_
  rintro y x' ⟨v, rfl, ho, hb⟩
  obtain ⟨a, c, rfl⟩ := own_shape ho
  rw [numN_nums] at ho
  exact ⟨a, c, rfl, h.new hb ho⟩
theorem kids_ls (h : Ls w0 F T B rs last W R x) : Calls Try.prog 21 #[.pointer (some ⟨T, 0, none⟩), .int .i64 0] x fun y x' => ∃ a c, y = .returned (.tuple #[.slice a (nK rs) c, .int .i64 0]) ∧ Ls w0 F T B rs last W ((.slice a (nK rs) c, nK rs, nums (lK rs)) :: R) x' := by
  refine (childrenT_any h.et h.ns.iv.tr.dis 0 (root_lv h.ns.iv.tr)).mono ?_
  rintro y x' ⟨v, rfl, ho, hb⟩
  obtain ⟨a, c, rfl⟩ := own_shape ho
  rw [numN_nums] at ho
  exact ⟨a, c, rfl, h.new hb ho⟩
theorem live_ls (h : Ls w0 F T B rs last W R x) : Calls Try.prog 16 #[.pointer (some ⟨T, 0, none⟩)] x fun y x' => ∃ a c, y = .returned (.slice a (nV rs) c) ∧ Ls w0 F T B rs last W ((.slice a (nV rs) c, nV rs, nums (lV rs)) :: R) x' := by
  refine (live_any h.et).mono ?_
  rintro y x' ⟨v, rfl, ho, hb⟩
  obtain ⟨a, c, rfl⟩ := own_shape ho
  rw [numN_nums] at ho
  exact ⟨a, c, rfl, h.new hb ho⟩
theorem told_ls (h : Ls w0 F T B rs last W R x) : Calls Try.prog 22 #[.pointer (some ⟨T, 0, none⟩)] x fun y x' => ∃ cs, y = .returned (.agg cs.toArray) ∧ Tc cs (tf rs) (tg rs) ∧ Ls w0 F T B rs last W R x' ∧ Below x.heap.size x x' := by
  refine (told_any h.et).mono ?_
  rintro y x' ⟨cs, rfl, hT, hb⟩
  exact ⟨cs, rfl, hT, h.below hb, hb⟩
theorem branch_ls (h : Ls w0 F T B rs last W R x) : Calls Try.prog 19 #[.pointer (some ⟨T, 0, none⟩), .int .i64 0] x fun y x' => y = .returned (.bool true) ∧ Ls w0 F T B rs last W R x' := by
  obtain ⟨r, hr, _⟩ := h.ns.iv.tr.root
  refine (branch_any h.et h.ns.iv 0 r hr).mono ?_
  rintro y x' ⟨rfl, hb⟩
  exact ⟨rfl, h.below hb⟩
theorem mark_ls (h : Ls w0 F T B rs last W R x) (i : Nat) (l : List Int) (n : Nat) (v : Value) (hp : R[i]? = some (v, n, nums l)) (hn : l.length = n) (hl : n ≤ 32) (z : Int) :
    Calls Try.prog 23 #[v, .int .i64 z] x fun y x' => ∃ a' c', y = .returned (.slice a' (n + 1) c') ∧ Ls w0 F T B rs last W (R.set i (.slice a' (n + 1) c', n + 1, nums (List.replicate (n + 1) z))) x' := by
  have hr := h.rw.row i _ hp
  simp only [] at hr
  rw [← hn] at hr
  refine (marked_any x w0.heap.size v l hr z (by omega) h.rw.low).mono ?_
  rintro y x' ⟨v', rfl, ho, hg, hv⟩
  rw [hn] at ho
  obtain ⟨a', c', rfl⟩ := own_shape ho
  exact ⟨a', c', rfl, h.mark hp ho hg hv⟩
theorem same_ls (h : Ls w0 F T B rs last W R x) (i j : Nat) (l : List Int) (n : Nat) (a a' : Option Addr) (c c' : Nat) (hp : R[i]? = some (.slice a n c, n, nums l)) (hq : R[j]? = some (.slice a' n c', n, nums l)) (hn : l.length = n) (hl : n ≤ 32) :
    Calls Try.prog 24 #[.slice a n c, .slice a' n c'] x fun y x' => y = .returned (.bool true) ∧ Ls w0 F T B rs last W R x' := by
  refine (same_rw h.rw i j l n a a' c c' hp hq hn hl).mono ?_
  rintro y x' ⟨rfl, hb⟩
  exact ⟨rfl, h.below hb⟩
theorem countT_ls (h : Ls w0 F T B rs last W R x) (i : Nat) (a : Option Addr) (c : Nat) (hp : R[i]? = some (.slice a (nT rs) c, nT rs, nums (lT rs))) :
    Calls Try.prog 18 #[.slice a (nT rs) c, .int .i64 0] x fun y x' => y = .returned (.int .i64 1) ∧ x' = x := by
  have hr := h.rw.row i _ hp
  simp only [] at hr
  have h9 := count_any x w0.heap.size a c (wk rs 17 0) (by rw [numN_nums]; exact hr) 0 (wk_len h.ns.iv.tr 17 (root_lv h.ns.iv.tr))
  rw [wk_once h.ns.iv.tr (root_lv h.ns.iv.tr)] at h9
  exact h9
theorem countV_ls (h : Ls w0 F T B rs last W R x) (i : Nat) (a : Option Addr) (c : Nat) (hp : R[i]? = some (.slice a (nV rs) c, nV rs, nums (lV rs))) :
    Calls Try.prog 18 #[.slice a (nV rs) c, .int .i64 0] x fun y x' => y = .returned (.int .i64 1) ∧ x' = x := by
  have hr := h.rw.row i _ hp
  simp only [] at hr
  have h9 := count_any x w0.heap.size a c (lvL rs) (by rw [numN_nums]; exact hr) 0 (lvL_le h.ns.iv.tr)
  rw [lvL_one h.ns.iv.tr] at h9
  exact h9
theorem ends_ls (h : Ls w0 F T B rs last W R x) (i : Nat) (a : Option Addr) (c : Nat) (hp : R[i]? = some (.slice a (nK rs) c, nK rs, nums (lK rs))) :
    Calls Try.prog 26 #[.pointer (some ⟨T, 0, none⟩), .slice a (nK rs) c] x fun y x' => y = .returned (.bool true) ∧ Mod F x x' := by
  have hr := h.rw.row i _ hp
  simp only [] at hr
  exact endsApart_any x F T rs last h.et h.ns.iv w0.heap.size a c h.ns.et.lt (by rw [numN_nums]; exact hr)
theorem ls_lens (h : Ns w0 F T B rs last) : (lT rs).length = nT rs ∧ (lK rs).length = nK rs ∧ (lV rs).length = nV rs ∧ nT rs ≤ 16 ∧ nK rs ≤ 16 ∧ nV rs ≤ 16 ∧ 0 < nT rs ∧ 0 < nV rs :=
  ⟨List.length_map _, List.length_map _, List.length_map _, wk_len h.iv.tr 17 (root_lv h.iv.tr), kids_le h.iv.tr 0, lvL_le h.iv.tr, by unfold nT; simp [wk], lvL_pos h.iv.tr⟩
end
end Go.Proofs.Ytoddadohmnaolab

namespace Go.Proofs.Ytoddadohmnaolab
open Go.ChangeShapes Go.WideShapes Go.ChangeAt Go.RowKit Go.Deep Go.Shelf Go.Great

set_option maxRecDepth 100000 in
set_option maxHeartbeats 12800000 in
theorem lists_walk (a : Option Addr) (len cap : Nat) (O : Nat → Ov) (w : World) (hl : len ≤ maxLen) (hZ : IsOps w a len O) :
    Calls Try.prog 5 #[.slice a len cap] w fun x w' => x = .returned (.bool true) ∧ Below w.heap.size w w' := by
  have HZ := hide hZ
  have HF := hide (first_ns w)
  unfold maxLen at hl
  clear hZ
  go_enter Try.func5, Try.ntmps5
  go_wp2_with fail
  refine HF.out.mono ?_
  rintro x w1 ⟨T, B, rfl, hB, F, hN, hF, hb⟩
  have HN := hide hN
  have HFl := hide hF
  have HB := hide hb
  have HBl := hide hB
  clear hN hF hb hB HF
  go_upto_region 5 with fail
  go_loopw [5] (fun x wr => ∃ j : Nat, j ≤ len ∧ x = .int .i64 (j : Int) ∧ ∃ rs last F, Hid (Ns wr F T B rs last) ∧ Hid (∀ b, F b → w.heap.size ≤ b) ∧ Hid (Below w.heap.size w wr)) (fun x _ => len - (intOf x).toNat)
  case atStart => exact ⟨0, by omega, rfl, rs3, 3, F, HN, HFl, HB⟩
  case round =>
  clear HN HFl HB
  obtain ⟨j, hj, rfl, rs, last, F, KN, KF, KB⟩ := hrel
  by_cases hlt : j < len
  · have hd : decide ((j : Int) < (len : Int)) = true := by simp; omega
    have hj3 : (j : Int) < (len : Int) := by omega
    obtain ⟨ad, rfl, hcl⟩ := HZ.out.below KB.out j hlt
    have HCl := hide hcl
    have HNo : Hid (Calls Try.prog 9 #[.pointer (some ⟨B, 0, none⟩), .pointer (some ⟨T, 0, none⟩), .agg (O j).cells.toArray] wr fun x w' => x = .returned (.bool true) ∧ Np wr F T B w') := hide (noted_any KN.out (O j).kd (O j).t (O j).e (O j).n (O j).m (O j).q (O j).g (O j).pc (O j).on)
    clear hcl
    generalize hoj : O j = o at *
    clear hoj
    go_wp2_with (refine loadOp o ?lw _ rfl (ad.add (j * 18)) ?lx HCl.out ?_; rotate_left 2)
    try (case lw => rfl)
    try (case lx => rfl)
    refine HNo.out.mono ?_
    rintro x2 w2 ⟨rfl, rs', last', F', hN2, hX⟩
    obtain ⟨hm, hf⟩ := hX
    have HN2 := hide hN2
    have KF2 : Hid (∀ b, F' b → w.heap.size ≤ b) := hide (fun b hb => by
      rcases hf b (.inr hb) with (e9 | e9) | e9
      · rw [e9]; exact HBl.out
      · exact KF.out b e9
      · exact Nat.le_trans KB.out.size e9)
    have KB2 : Hid (Below w.heap.size w w2) := hide ⟨hm.os.trans KB.out.os, hm.tape.trans KB.out.tape, hm.output.trans KB.out.output, Nat.le_trans KB.out.size hm.size, fun b hb => (hm.block b (Nat.lt_of_lt_of_le hb KB.out.size) (fun e9 => by
      rcases e9 with e9 | e9
      · have := HBl.out; omega
      · have := KF.out b e9; omega)).trans (KB.out.block b hb)⟩
    clear hN2 hm hf HNo HCl KN KF KB
    go_wp2
    go_roundw
    case rel =>
      first
        | exact ⟨j + 1, by omega, by go_num, rs', last', F', HN2, KF2, KB2⟩
        | ((repeat apply Exists.intro); refine ⟨?_, rfl⟩; exact ⟨j + 1, by omega, by go_num, rs', last', F', HN2, KF2, KB2⟩)
    case measure => simp [intOf]; omega
  · obtain rfl : j = len := by omega
    have hd : decide ((j : Int) < (j : Int)) = false := by simp
    clear HZ hl
    generalize wr = w0 at *
    obtain ⟨i3, hi3, hz3, hs3, hb3⟩ := info3'
    obtain ⟨hlt9, hlk9, hlv9, hnt, hnk, hnv, hnt0, hnv0⟩ := ls_lens KN.out
    have HLT := hide hlt9
    have HLK := hide hlk9
    have HLV := hide hlv9
    have H0 : Hid (Ls w0 F T B rs last none [] w0) := hide ⟨KN.out, Rw.nil (Nat.le_refl _), Below.refl _ _, fun b o h => by cases h⟩
    have HTree := hide (fun W R x (h : Ls w0 F T B rs last W R x) => tree_ls h)
    have HKids := hide (fun W R x (h : Ls w0 F T B rs last W R x) => kids_ls h)
    have HLive := hide (fun W R x (h : Ls w0 F T B rs last W R x) => live_ls h)
    have HCnT := hide (fun W R x (h : Ls w0 F T B rs last W R x) => countT_ls h)
    have HCnV := hide (fun W R x (h : Ls w0 F T B rs last W R x) => countV_ls h)
    have HEnd := hide (fun W R x (h : Ls w0 F T B rs last W R x) => ends_ls h)
    clear hlt9 hlk9 hlv9 KN
    generalize nT rs = nt at *
    generalize nK rs = nk at *
    generalize nV rs = nv at *
    generalize lT rs = lt at *
    generalize lK rs = lk at *
    generalize lV rs = lv at *
    go_upto_region 8 with fail
    clear hd
    have HC := hide (HTree.out _ _ _ H0.out)
    go_wp2_with fail
    refine HC.out.mono ?_
    rintro y x1 ⟨aa, ac, rfl, h1⟩
    have H1 : Hid (Ls w0 F T B rs last none [(.slice aa nt ac, nt, nums lt)] x1) := hide h1
    clear h1 HC H0
    have HC := hide (HKids.out _ _ _ H1.out)
    go_wp2_with fail
    refine HC.out.mono ?_
    rintro y x2 ⟨ca, cc, rfl, h2⟩
    have H2 : Hid (Ls w0 F T B rs last none [(.slice ca nk cc, nk, nums lk), (.slice aa nt ac, nt, nums lt)] x2) := hide h2
    clear h2 HC H1
    have HC := hide (HLive.out _ _ _ H2.out)
    go_wp2_with fail
    refine HC.out.mono ?_
    rintro y x3 ⟨da, dc, rfl, h3⟩
    have H3 : Hid (Ls w0 F T B rs last none [(.slice da nv dc, nv, nums lv), (.slice ca nk cc, nk, nums lk), (.slice aa nt ac, nt, nums lt)] x3) := hide h3
    clear h3 HC H2
    have HC := hide (HTree.out _ _ _ H3.out)
    go_wp2_with fail
    refine HC.out.mono ?_
    rintro y x4 ⟨ua, uc, rfl, h4⟩
    have H4 : Hid (Ls w0 F T B rs last none [(.slice ua nt uc, nt, nums lt), (.slice da nv dc, nv, nums lv), (.slice ca nk cc, nk, nums lk), (.slice aa nt ac, nt, nums lt)] x4) := hide h4
    clear h4 HC H3
    have HC := hide (HKids.out _ _ _ H4.out)
    go_wp2_with fail
    refine HC.out.mono ?_
    rintro y x5 ⟨ka, kc, rfl, h5⟩
    have H5 : Hid (Ls w0 F T B rs last none [(.slice ka nk kc, nk, nums lk), (.slice ua nt uc, nt, nums lt), (.slice da nv dc, nv, nums lv), (.slice ca nk cc, nk, nums lk), (.slice aa nt ac, nt, nums lt)] x5) := hide h5
    clear h5 HC H4
    have HC := hide (HLive.out _ _ _ H5.out)
    go_wp2_with fail
    refine HC.out.mono ?_
    rintro y x6 ⟨la, lc, rfl, h6⟩
    have H6 : Hid (Ls w0 F T B rs last none [(.slice la nv lc, nv, nums lv), (.slice ka nk kc, nk, nums lk), (.slice ua nt uc, nt, nums lt), (.slice da nv dc, nv, nums lv), (.slice ca nk cc, nk, nums lk), (.slice aa nt ac, nt, nums lt)] x6) := hide h6
    clear h6 HC H5
    have HC := hide (told_ls H6.out)
    go_wp2_with fail
    refine HC.out.mono ?_
    rintro y x7 ⟨cs, rfl, hT, h7, hb7⟩
    have HT := hide hT
    have hi : (Try.prog.info? 62).map (·.size) = some cs.length := by rw [hT.len]; exact infoTold
    have hle : 0 + cs.length ≤ zT.length := by rw [zT_tc.len, hT.len]; omega
    have H8 := hide (h7.keeps (freshT_below x7 cs) (freshT_tb x7 hT.len).out (Nat.le_refl _))
    clear hT hb7 h7 HC H6
    go_upto_region 15 with (first
      | (refine allocTold rfl rfl ?_)
      | (refine storeT cs hi HT.out.one rfl _ _ rfl x7.heap.size 0 rfl rfl zT (heap_alloc_new x7 _) hle ?_; change wpList _ _ _ _ _ (freshT x7 cs); generalize freshT x7 cs = x8 at *))
    generalize x7.heap.size = MW at *
    clear hle
    have HC := hide (mark_ls H8.out 5 lt nt (.slice aa nt ac) rfl HLT.out (by omega) (-5))
    go_wp2_with fail
    refine HC.out.mono ?_
    rintro y x9 ⟨Aa, Ac, rfl, h9⟩
    have H9 : Hid (Ls w0 F T B rs last (some (MW, .cells cs.toArray 62 (0, 0))) [(.slice la nv lc, nv, nums lv), (.slice ka nk kc, nk, nums lk), (.slice ua nt uc, nt, nums lt), (.slice da nv dc, nv, nums lv), (.slice ca nk cc, nk, nums lk), (.slice Aa (nt + 1) Ac, (nt + 1), nums (List.replicate (nt + 1) (-5)))] x9) := hide h9
    clear h9 HC H8
    have HC := hide (mark_ls H9.out 4 lk nk (.slice ca nk cc) rfl HLK.out (by omega) (-6))
    go_wp2_with fail
    refine HC.out.mono ?_
    rintro y x10 ⟨Ca, Cc, rfl, h10⟩
    have H10 : Hid (Ls w0 F T B rs last (some (MW, .cells cs.toArray 62 (0, 0))) [(.slice la nv lc, nv, nums lv), (.slice ka nk kc, nk, nums lk), (.slice ua nt uc, nt, nums lt), (.slice da nv dc, nv, nums lv), (.slice Ca (nk + 1) Cc, (nk + 1), nums (List.replicate (nk + 1) (-6))), (.slice Aa (nt + 1) Ac, (nt + 1), nums (List.replicate (nt + 1) (-5)))] x10) := hide h10
    clear h10 HC H9
    have HC := hide (mark_ls H10.out 3 lv nv (.slice da nv dc) rfl HLV.out (by omega) (-7))
    go_wp2_with fail
    refine HC.out.mono ?_
    rintro y x11 ⟨Da, Dc, rfl, h11⟩
    have H11 : Hid (Ls w0 F T B rs last (some (MW, .cells cs.toArray 62 (0, 0))) [(.slice la nv lc, nv, nums lv), (.slice ka nk kc, nk, nums lk), (.slice ua nt uc, nt, nums lt), (.slice Da (nv + 1) Dc, (nv + 1), nums (List.replicate (nv + 1) (-7))), (.slice Ca (nk + 1) Cc, (nk + 1), nums (List.replicate (nk + 1) (-6))), (.slice Aa (nt + 1) Ac, (nt + 1), nums (List.replicate (nt + 1) (-5)))] x11) := hide h11
    clear h11 HC H10
    have HC := hide (HTree.out _ _ _ H11.out)
    go_wp2_with fail
    refine HC.out.mono ?_
    rintro y x12 ⟨xa, xc, rfl, h12⟩
    have H12 : Hid (Ls w0 F T B rs last (some (MW, .cells cs.toArray 62 (0, 0))) [(.slice xa nt xc, nt, nums lt), (.slice la nv lc, nv, nums lv), (.slice ka nk kc, nk, nums lk), (.slice ua nt uc, nt, nums lt), (.slice Da (nv + 1) Dc, (nv + 1), nums (List.replicate (nv + 1) (-7))), (.slice Ca (nk + 1) Cc, (nk + 1), nums (List.replicate (nk + 1) (-6))), (.slice Aa (nt + 1) Ac, (nt + 1), nums (List.replicate (nt + 1) (-5)))] x12) := hide h12
    clear h12 HC H11
    have HC := hide (HKids.out _ _ _ H12.out)
    go_wp2_with fail
    refine HC.out.mono ?_
    rintro y x13 ⟨ya, yc, rfl, h13⟩
    have H13 : Hid (Ls w0 F T B rs last (some (MW, .cells cs.toArray 62 (0, 0))) [(.slice ya nk yc, nk, nums lk), (.slice xa nt xc, nt, nums lt), (.slice la nv lc, nv, nums lv), (.slice ka nk kc, nk, nums lk), (.slice ua nt uc, nt, nums lt), (.slice Da (nv + 1) Dc, (nv + 1), nums (List.replicate (nv + 1) (-7))), (.slice Ca (nk + 1) Cc, (nk + 1), nums (List.replicate (nk + 1) (-6))), (.slice Aa (nt + 1) Ac, (nt + 1), nums (List.replicate (nt + 1) (-5)))] x13) := hide h13
    clear h13 HC H12
    have HC := hide (HLive.out _ _ _ H13.out)
    go_wp2_with fail
    refine HC.out.mono ?_
    rintro y x14 ⟨za, zc, rfl, h14⟩
    have H14 : Hid (Ls w0 F T B rs last (some (MW, .cells cs.toArray 62 (0, 0))) [(.slice za nv zc, nv, nums lv), (.slice ya nk yc, nk, nums lk), (.slice xa nt xc, nt, nums lt), (.slice la nv lc, nv, nums lv), (.slice ka nk kc, nk, nums lk), (.slice ua nt uc, nt, nums lt), (.slice Da (nv + 1) Dc, (nv + 1), nums (List.replicate (nv + 1) (-7))), (.slice Ca (nk + 1) Cc, (nk + 1), nums (List.replicate (nk + 1) (-6))), (.slice Aa (nt + 1) Ac, (nt + 1), nums (List.replicate (nt + 1) (-5)))] x14) := hide h14
    clear h14 HC H13
    have hq1 : ((nt : Int) == 0) = false := by simp; omega
    have hq2 : ((nv : Int) == 0) = false := by simp; omega
    have hq3 : ¬ (nt : Int) = 0 := by omega
    have hq4 : ¬ (nv : Int) = 0 := by omega
    have HC := hide (same_ls H14.out 5 2 lt nt ua xa uc xc rfl rfl HLT.out (by omega))
    go_wp2_with fail
    refine HC.out.mono ?_
    rintro y x15 ⟨rfl, h15⟩
    have H15 := hide h15
    clear h15 HC H14
    have HC := hide (same_ls H15.out 4 1 lk nk ka ya kc yc rfl rfl HLK.out (by omega))
    go_wp2_with fail
    refine HC.out.mono ?_
    rintro y x16 ⟨rfl, h16⟩
    have H16 := hide h16
    clear h16 HC H15
    have HC := hide (same_ls H16.out 3 0 lv nv la za lc zc rfl rfl HLV.out (by omega))
    go_wp2_with fail
    refine HC.out.mono ?_
    rintro y x17 ⟨rfl, h17⟩
    have H17 := hide h17
    clear h17 HC H16
    clear hq1 hq2 hq3 hq4
    have HL0 : Hid (Ls w0 F T B rs last (some (MW, .cells cs.toArray 62 (0, 0))) [(.slice none 0 0, 0, []), (.slice za nv zc, nv, nums lv), (.slice ya nk yc, nk, nums lk), (.slice xa nt xc, nt, nums lt), (.slice la nv lc, nv, nums lv), (.slice ka nk kc, nk, nums lk), (.slice ua nt uc, nt, nums lt), (.slice Da (nv + 1) Dc, (nv + 1), nums (List.replicate (nv + 1) (-7))), (.slice Ca (nk + 1) Cc, (nk + 1), nums (List.replicate (nk + 1) (-6))), (.slice Aa (nt + 1) Ac, (nt + 1), nums (List.replicate (nt + 1) (-5)))] x17) := hide (H17.out.new (Below.refl _ _) (World.ownsRow_nil _ _ _ _))
    clear H17
    go_upto_region 25 with fail
    go_loopw [22, 23] (fun u i xr => ∃ j : Nat, j ≤ nk ∧ i = .int .i64 (j : Int) ∧ ∃ pa pc, u = .slice pa j pc ∧ Hid (Ls w0 F T B rs last (some (MW, .cells cs.toArray 62 (0, 0))) [(.slice pa j pc, j, nums (lk.take j)), (.slice za nv zc, nv, nums lv), (.slice ya nk yc, nk, nums lk), (.slice xa nt xc, nt, nums lt), (.slice la nv lc, nv, nums lv), (.slice ka nk kc, nk, nums lk), (.slice ua nt uc, nt, nums lt), (.slice Da (nv + 1) Dc, (nv + 1), nums (List.replicate (nv + 1) (-7))), (.slice Ca (nk + 1) Cc, (nk + 1), nums (List.replicate (nk + 1) (-6))), (.slice Aa (nt + 1) Ac, (nt + 1), nums (List.replicate (nt + 1) (-5)))] xr)) (fun _ i _ => nk - (intOf i).toNat)
    case atStart => exact ⟨0, by omega, rfl, none, 0, rfl, HL0⟩
    case round =>
    clear HL0
    obtain ⟨j, hj, rfl, pa, pc, rfl, HL⟩ := hrel
    by_cases hlt2 : j < nk
    · have hd : decide ((j : Int) < (nk : Int)) = true := by simp; omega
      have hj3 : (j : Int) < (nk : Int) := by omega
      obtain ⟨y, hy⟩ : ∃ y, lk[j]? = some y := ⟨_, List.getElem?_eq_getElem (by have := HLK.out; omega)⟩
      obtain ⟨g2, e2, cy⟩ := row_cell (HL.out.rw.row 5 _ rfl) hy
      cases e2
      have HK0 := hide (HL.out.rw.row 0 _ rfl)
      have HLo := hide HL.out.rw.low
      go_upto_region 26 with (at_builtin; refine wpList_append_own_at _ rfl _ _ 49 rfl w0.heap.size 3 i3 (.int .i64 0) 1 8 Try.underlying49 hi3 hz3 hs3 hb3 rfl (by decide) (.slice pa j pc) j (nums (lk.take j)) rfl (HK0.out.alloc _) ⟨wr.heap.size, 0, none⟩ 1 1 [.int .i64 y] rfl rfl (cell_one_new _ _ _) (by simp [Value.oneCell']) (by unfold maxLen; omega) (by omega) (by have := HLo.out; simp; omega) ?_; intro v2 w2 ho2 hg2 _ hv2)
      have hg3 : wr.grownBy w2 (Value.slice pa j pc).ownBlock := (World.grownBy_alloc _ _ _).trans hg2
      have hv3 : v2.ownBlock = (Value.slice pa j pc).ownBlock ∨ ∃ b, v2.ownBlock = some b ∧ wr.heap.size ≤ b := by
        rcases hv2 with h9 | h9
        · exact .inl h9
        · exact .inr ⟨_, h9, by simp⟩
      have ho3 : w2.ownsRow w0.heap.size 3 1 v2 (j + 1) (nums (lk.take (j + 1))) := by
        have e9 : lk.take (j + 1) = lk.take j ++ [y] := by rw [List.take_add_one, hy]; rfl
        rw [e9, nums_app]
        exact ho2
      have HL2 := hide (HL.out.mark (i := 0) rfl ho3 hg3 hv3)
      obtain ⟨pa', pc', rfl⟩ := own_shape ho3
      clear hg3 hv3 ho3 ho2 hg2 hv2 HL HK0 HLo hy cy
      go_wp2
      go_roundw
      case rel =>
        first
          | exact ⟨j + 1, by omega, by go_num, _, _, rfl, HL2⟩
          | ((repeat apply Exists.intro); refine ⟨?_, rfl⟩; exact ⟨j + 1, by omega, by go_num, _, _, rfl, HL2⟩)
      case measure => simp [intOf]; omega
    · obtain rfl : j = nk := by omega
      have hd : decide ((j : Int) < (j : Int)) = false := by simp
      have hta : lk.take j = lk := List.take_of_length_le (by have := HLK.out; omega)
      rw [hta] at HL
      have H18 := HL
      clear hta HL
      have HC := hide (mark_ls H18.out 3 lt nt (.slice xa nt xc) rfl HLT.out (by omega) (-8))
      go_wp2_with fail
      refine HC.out.mono ?_
      rintro y x19 ⟨Xa, Xc, rfl, h19⟩
      have H19 : Hid (Ls w0 F T B rs last (some (MW, .cells cs.toArray 62 (0, 0))) [(.slice pa j pc, j, nums lk), (.slice za nv zc, nv, nums lv), (.slice ya j yc, j, nums lk), (.slice Xa (nt + 1) Xc, (nt + 1), nums (List.replicate (nt + 1) (-8))), (.slice la nv lc, nv, nums lv), (.slice ka j kc, j, nums lk), (.slice ua nt uc, nt, nums lt), (.slice Da (nv + 1) Dc, (nv + 1), nums (List.replicate (nv + 1) (-7))), (.slice Ca (j + 1) Cc, (j + 1), nums (List.replicate (j + 1) (-6))), (.slice Aa (nt + 1) Ac, (nt + 1), nums (List.replicate (nt + 1) (-5)))] x19) := hide h19
      clear h19 HC H18
      have HC := hide (mark_ls H19.out 2 lk j (.slice ya j yc) rfl HLK.out (by omega) (-9))
      go_wp2_with fail
      refine HC.out.mono ?_
      rintro y x20 ⟨Ya, Yc, rfl, h20⟩
      have H20 : Hid (Ls w0 F T B rs last (some (MW, .cells cs.toArray 62 (0, 0))) [(.slice pa j pc, j, nums lk), (.slice za nv zc, nv, nums lv), (.slice Ya (j + 1) Yc, (j + 1), nums (List.replicate (j + 1) (-9))), (.slice Xa (nt + 1) Xc, (nt + 1), nums (List.replicate (nt + 1) (-8))), (.slice la nv lc, nv, nums lv), (.slice ka j kc, j, nums lk), (.slice ua nt uc, nt, nums lt), (.slice Da (nv + 1) Dc, (nv + 1), nums (List.replicate (nv + 1) (-7))), (.slice Ca (j + 1) Cc, (j + 1), nums (List.replicate (j + 1) (-6))), (.slice Aa (nt + 1) Ac, (nt + 1), nums (List.replicate (nt + 1) (-5)))] x20) := hide h20
      clear h20 HC H19
      have HC := hide (mark_ls H20.out 1 lv nv (.slice za nv zc) rfl HLV.out (by omega) (-10))
      go_wp2_with fail
      refine HC.out.mono ?_
      rintro y x21 ⟨Za, Zc, rfl, h21⟩
      have H21 : Hid (Ls w0 F T B rs last (some (MW, .cells cs.toArray 62 (0, 0))) [(.slice pa j pc, j, nums lk), (.slice Za (nv + 1) Zc, (nv + 1), nums (List.replicate (nv + 1) (-10))), (.slice Ya (j + 1) Yc, (j + 1), nums (List.replicate (j + 1) (-9))), (.slice Xa (nt + 1) Xc, (nt + 1), nums (List.replicate (nt + 1) (-8))), (.slice la nv lc, nv, nums lv), (.slice ka j kc, j, nums lk), (.slice ua nt uc, nt, nums lt), (.slice Da (nv + 1) Dc, (nv + 1), nums (List.replicate (nv + 1) (-7))), (.slice Ca (j + 1) Cc, (j + 1), nums (List.replicate (j + 1) (-6))), (.slice Aa (nt + 1) Ac, (nt + 1), nums (List.replicate (nt + 1) (-5)))] x21) := hide h21
      clear h21 HC H20
      clear hd
      have HC := hide (all_rw H21.out.rw 9 (nt + 1) (-5) Aa Ac rfl (by omega) (by omega))
      go_wp2_with fail
      refine HC.out.mono ?_
      rintro y _ ⟨rfl, rfl⟩
      clear HC
      have HC := hide (all_rw H21.out.rw 8 (j + 1) (-6) Ca Cc rfl (by omega) (by omega))
      go_wp2_with fail
      refine HC.out.mono ?_
      rintro y _ ⟨rfl, rfl⟩
      clear HC
      have HC := hide (all_rw H21.out.rw 7 (nv + 1) (-7) Da Dc rfl (by omega) (by omega))
      go_wp2_with fail
      refine HC.out.mono ?_
      rintro y _ ⟨rfl, rfl⟩
      clear HC
      have HC := hide (all_rw H21.out.rw 3 (nt + 1) (-8) Xa Xc rfl (by omega) (by omega))
      go_wp2_with fail
      refine HC.out.mono ?_
      rintro y _ ⟨rfl, rfl⟩
      clear HC
      have HC := hide (all_rw H21.out.rw 2 (j + 1) (-9) Ya Yc rfl (by omega) (by omega))
      go_wp2_with fail
      refine HC.out.mono ?_
      rintro y _ ⟨rfl, rfl⟩
      clear HC
      have HC := hide (all_rw H21.out.rw 1 (nv + 1) (-10) Za Zc rfl (by omega) (by omega))
      go_wp2_with fail
      refine HC.out.mono ?_
      rintro y _ ⟨rfl, rfl⟩
      clear HC
      have HC := hide (same_ls H21.out 5 0 lk j ka pa kc pc rfl rfl HLK.out (by omega))
      go_wp2_with fail
      refine HC.out.mono ?_
      rintro y x22 ⟨rfl, h22⟩
      have H22 := hide h22
      clear h22 HC H21
      go_upto_region 33 with fail
      obtain ⟨xd, hdx⟩ : ∃ v, v = x22.drew := ⟨_, rfl⟩
      have hbd : Below x22.heap.size x22 xd := by rw [hdx]; exact ⟨rfl, rfl, rfl, Nat.le_refl _, fun _ _ => rfl⟩
      have HD := hide (H22.out.below hbd)
      clear hbd H22
      have HS : Hid (xd.heap[MW]? = some (.cells cs.toArray 62 (0, 0))) := hide (HD.out.kp MW _ rfl).1
      have HCt := hide (HCnT.out _ _ _ HD.out 6 ua uc rfl)
      have HCv := hide (HCnV.out _ _ _ HD.out 4 la lc rfl)
      have HTo := hide (told_ls HD.out)
      refine wp_region_held_drew (S := fun W => W.heap[MW]? = some (.cells cs.toArray 62 (0, 0))) (by kernel_rfl) (by rw [← hdx]; exact HS.out) (fun _ => ?_)
      rw [← hdx]
      clear hdx
      refine hd_take 0 (o := ⟨some 166, _, _, _, _, _⟩) (.slice ua nt uc) (by kernel_rfl) (by kernel_rfl) (by kernel_rfl) rfl (by rfl) (fun W hSw => by go_simp) (fun _ _ _ h => h) HS.out ?_
      try simp only [Act.put, List.setIfInBounds_toArray, List.set_cons_zero, List.set_cons_succ]
      refine hd_call 1 (o := ⟨some 167, _, _, _, _, _⟩) (by kernel_rfl) rfl (by rfl) (fun K hK => ?_)
      go_simp
      go_wp2_with (go_at_call 18; refine HCt.out.mono ?_; rintro e1 _ ⟨rfl, rfl⟩)
      refine hK _ _ HS.out ?_
      clear hK K HCt
      try simp only [Act.put, List.setIfInBounds_toArray, List.set_cons_zero, List.set_cons_succ]
      refine hd_take 2 (o := ⟨some 168, _, _, _, _, _⟩) (.bool false) (by kernel_rfl) (by kernel_rfl) (by kernel_rfl) rfl (by rfl) (fun W hSw => by go_simp) (fun _ _ _ h => h) HS.out ?_
      try simp only [Act.put, List.setIfInBounds_toArray, List.set_cons_zero, List.set_cons_succ]
      refine hd_take 3 (o := ⟨some 169, _, _, _, _, _⟩) (.bool false) (by kernel_rfl) (by kernel_rfl) (by kernel_rfl) rfl (by rfl) (fun W hSw => by go_simp) (fun _ _ _ h => h) HS.out ?_
      try simp only [Act.put, List.setIfInBounds_toArray, List.set_cons_zero, List.set_cons_succ]
      refine hd_take 4 (o := ⟨some 170, _, _, _, _, _⟩) (.slice la nv lc) (by kernel_rfl) (by kernel_rfl) (by kernel_rfl) rfl (by rfl) (fun W hSw => by go_simp) (fun _ _ _ h => h) HS.out ?_
      try simp only [Act.put, List.setIfInBounds_toArray, List.set_cons_zero, List.set_cons_succ]
      refine hd_call 5 (o := ⟨some 171, _, _, _, _, _⟩) (by kernel_rfl) rfl (by rfl) (fun K hK => ?_)
      go_simp
      go_wp2_with (go_at_call 18; refine HCv.out.mono ?_; rintro e1 _ ⟨rfl, rfl⟩)
      refine hK _ _ HS.out ?_
      clear hK K HCv
      try simp only [Act.put, List.setIfInBounds_toArray, List.set_cons_zero, List.set_cons_succ]
      refine hd_take 6 (o := ⟨some 172, _, _, _, _, _⟩) (.bool false) (by kernel_rfl) (by kernel_rfl) (by kernel_rfl) rfl (by rfl) (fun W hSw => by go_simp) (fun _ _ _ h => h) HS.out ?_
      try simp only [Act.put, List.setIfInBounds_toArray, List.set_cons_zero, List.set_cons_succ]
      refine hd_take 7 (o := ⟨some 173, _, _, _, _, _⟩) (.bool false) (by kernel_rfl) (by kernel_rfl) (by kernel_rfl) rfl (by rfl) (fun W hSw => by go_simp) (fun _ _ _ h => h) HS.out ?_
      try simp only [Act.put, List.setIfInBounds_toArray, List.set_cons_zero, List.set_cons_succ]
      refine hd_take 8 (o := ⟨some 174, _, _, _, _, _⟩) (.bool false) (by kernel_rfl) (by kernel_rfl) (by kernel_rfl) rfl (by rfl) (fun W hSw => by go_simp) (fun _ _ _ h => h) HS.out ?_
      try simp only [Act.put, List.setIfInBounds_toArray, List.set_cons_zero, List.set_cons_succ]
      refine hd_take 9 (o := ⟨some 175, _, _, _, _, _⟩) (.pointer (some ⟨T, 0, none⟩)) (by kernel_rfl) (by kernel_rfl) (by kernel_rfl) rfl (by rfl) (fun W hSw => by go_simp) (fun _ _ _ h => h) HS.out ?_
      try simp only [Act.put, List.setIfInBounds_toArray, List.set_cons_zero, List.set_cons_succ]
      refine hd_take 11 (o := ⟨some 177, _, _, _, _, _⟩) (.agg cs.toArray) (by kernel_rfl) (by kernel_rfl) (by kernel_rfl) rfl (by rfl) (fun W hSw => by exact run_loadT Try.underlying62 rfl cs hi _ rfl ⟨MW, 0, none⟩ rfl (Tb.cell ⟨hSw⟩)) (fun _ _ _ h => h) HS.out ?_
      try simp only [Act.put, List.setIfInBounds_toArray, List.set_cons_zero, List.set_cons_succ]
      refine hd_call 10 (o := ⟨some 176, _, _, _, _, _⟩) (by kernel_rfl) rfl (by rfl) (fun K hK => ?_)
      go_simp
      go_wp2_with (go_at_call 22; refine HTo.out.mono ?_; rintro e1 xe ⟨cs3, rfl, hT3, hL3, hb3⟩)
      have e3 : cs = cs3 := HT.out.ext hT3 (fun _ _ => rfl) (fun _ _ => rfl)
      subst e3
      have HE := hide hL3
      have HS2 : Hid (xe.heap[MW]? = some (.cells cs.toArray 62 (0, 0))) := hide (hL3.kp MW _ rfl).1
      refine hK _ _ HS2.out ?_
      clear hK K HTo HS HD hT3 hL3 hb3
      try simp only [Act.put, List.setIfInBounds_toArray, List.set_cons_zero, List.set_cons_succ]
      refine hd_take 12 (o := ⟨some 178, _, _, _, _, _⟩) (.bool false) (by kernel_rfl) (by kernel_rfl) (by kernel_rfl) rfl (by rfl) (fun W hSw => by exact run_neqT cs.toArray (HT.out.se 9994) (by kernel_rfl) _ _ rfl rfl rfl) (fun _ _ _ h => h) HS2.out ?_
      try simp only [Act.put, List.setIfInBounds_toArray, List.set_cons_zero, List.set_cons_succ]
      refine hd_take 13 (o := ⟨some 179, _, _, _, _, _⟩) (.bool false) (by kernel_rfl) (by kernel_rfl) (by kernel_rfl) rfl (by rfl) (fun W hSw => by go_simp) (fun _ _ _ h => h) HS2.out ?_
      try simp only [Act.put, List.setIfInBounds_toArray, List.set_cons_zero, List.set_cons_succ]
      refine hd_take 14 (o := ⟨some 180, _, _, _, _, _⟩) (.bool false) (by kernel_rfl) (by kernel_rfl) (by kernel_rfl) rfl (by rfl) (fun W hSw => by go_simp) (fun _ _ _ h => h) HS2.out ?_
      try simp only [Act.put, List.setIfInBounds_toArray, List.set_cons_zero, List.set_cons_succ]
      refine hd_take 15 (o := ⟨some 181, _, _, _, _, _⟩) (.pointer (some ⟨T, 0, none⟩)) (by kernel_rfl) (by kernel_rfl) (by kernel_rfl) rfl (by rfl) (fun W hSw => by go_simp) (fun _ _ _ h => h) HS2.out ?_
      try simp only [Act.put, List.setIfInBounds_toArray, List.set_cons_zero, List.set_cons_succ]
      have HBr := hide (branch_ls HE.out)
      refine hd_call 16 (o := ⟨some 182, _, _, _, _, _⟩) (by kernel_rfl) rfl (by rfl) (fun K hK => ?_)
      go_simp
      go_wp2_with (go_at_call 19; refine HBr.out.mono ?_; rintro e1 xf ⟨rfl, hL4⟩)
      have HG := hide hL4
      have HS3 : Hid (xf.heap[MW]? = some (.cells cs.toArray 62 (0, 0))) := hide (hL4.kp MW _ rfl).1
      refine hK _ _ HS3.out ?_
      clear hK K HBr HS2 HE hL4
      try simp only [Act.put, List.setIfInBounds_toArray, List.set_cons_zero, List.set_cons_succ]
      refine hd_take 17 (o := ⟨some 183, _, _, _, _, _⟩) (.bool false) (by kernel_rfl) (by kernel_rfl) (by kernel_rfl) rfl (by rfl) (fun W hSw => by go_simp) (fun _ _ _ h => h) HS3.out ?_
      try simp only [Act.put, List.setIfInBounds_toArray, List.set_cons_zero, List.set_cons_succ]
      refine hd_take 18 (o := ⟨some 184, _, _, _, _, _⟩) (.bool false) (by kernel_rfl) (by kernel_rfl) (by kernel_rfl) rfl (by rfl) (fun W hSw => by go_simp) (fun _ _ _ h => h) HS3.out ?_
      try simp only [Act.put, List.setIfInBounds_toArray, List.set_cons_zero, List.set_cons_succ]
      refine wpAnyH_done (by kernel_rfl) ?_ _
      clear HS3
      have HEn := hide (HEnd.out _ _ _ HG.out 0 pa pc rfl)
      go_wp2_with fail
      refine HEn.out.mono ?_
      rintro e1 xg ⟨rfl, hM⟩
      have HBz : Hid (Below w.heap.size w xg) := hide ((KB.out.trans (HG.out.bel.mono KB.out.size)).trans (hM.below KF.out (Nat.le_trans KB.out.size HG.out.bel.size)))
      clear hM HEn HG
      go_wp2
      go_ret
      exact ⟨rfl, HBz.out⟩
end Go.Proofs.Ytoddadohmnaolab
