import Derived.Test.YtngmnlmagbfijaaLC
namespace Go.Proofs.Ytngmnlmagbfijaa
open Go.RowKit
def goodS (o : Og) : Bool := decide (1 ≤ o.n) && decide (1 ≤ o.m) && decide (o.m ≤ 8)
/-- what one step makes of a plan -/
def stepS (s : Pl) (o : Og) : Pl :=
  if o.k = 2 then (if goodS o = true then setP s o.n o.m else s)
  else if o.k = 3 then (if mayF (srt o.R) = 0 then nextP s (srt o.R) else s) else s
/-- was anything set since? -/
def setsS (b : Bool) (o : Og) : Bool :=
  if o.k = 2 then (b || goodS o) else if o.k = 3 then (if mayF (srt o.R) = 0 then false else b) else b
/-- the choices of one step -/
def oneC (s : Pl) (b : Bool) (o : Og) : List Cz := if o.k = 3 ∧ mayF (srt o.R) = 0 then [⟨o.R, pick s (srt o.R), b⟩] else []
def runS : Pl → List Og → Pl
  | s, [] => s
  | s, o :: t => runS (stepS s o) t
def runB : Bool → List Og → Bool
  | b, [] => b
  | b, o :: t => runB (setsS b o) t
def runC : Pl → Bool → List Og → List Cz
  | _, _, [] => []
  | s, b, o :: t => oneC s b o ++ runC (stepS s o) (setsS b o) t
/-- what a script costs -/
def cost : List Og → Nat
  | [] => 0
  | o :: t => o.R.length + 1 + cost t
theorem runS_snoc : ∀ (l : List Og) (s : Pl) (o : Og), runS s (l ++ [o]) = stepS (runS s l) o
  | [], _, _ => rfl
  | a :: t, s, o => runS_snoc t (stepS s a) o
theorem runB_snoc : ∀ (l : List Og) (b : Bool) (o : Og), runB b (l ++ [o]) = setsS (runB b l) o
  | [], _, _ => rfl
  | a :: t, b, o => runB_snoc t (setsS b a) o
theorem runC_snoc : ∀ (l : List Og) (s : Pl) (b : Bool) (o : Og), runC s b (l ++ [o]) = runC s b l ++ oneC (runS s l) (runB b l) o
  | [], s, b, o => by simp [runC, runS, runB]
  | a :: t, s, b, o => by simp only [List.cons_append, runC, runC_snoc t, runS, runB, List.append_assoc]
theorem cost_app : ∀ (l r : List Og), cost (l ++ r) = cost l + cost r
  | [], r => by simp [cost]
  | a :: t, r => by simp only [List.cons_append, cost, cost_app t r]; omega
theorem cost_take : ∀ (l : List Og) (k : Nat), cost (l.take k) ≤ cost l
  | [], k => by simp
  | a :: t, 0 => by simp [cost]
  | a :: t, k + 1 => by simp only [List.take_succ_cons, cost]; have := cost_take t k; omega
theorem cost_len : ∀ (l : List Og), l.length ≤ cost l
  | [] => by simp
  | a :: t => by simp only [List.length_cons, cost]; have := cost_len t; omega
/-- the values fit -/
def Fit (l : List Og) : Prop := ∀ o ∈ l, I64 o.n ∧ ∀ z ∈ o.R, I64 z
theorem runC_len : ∀ (l : List Og) (s : Pl) (b : Bool), (runC s b l).length ≤ l.length
  | [], _, _ => by simp [runC]
  | a :: t, s, b => by
    simp only [runC, List.length_append, List.length_cons]
    have h1 := runC_len t (stepS s a) (setsS b a)
    have h2 : (oneC s b a).length ≤ 1 := by unfold oneC; split <;> simp
    omega
theorem info30 : ∃ i, Try.prog.info? 30 = some i ∧ i.zero = some (.agg #[.slice none 0 0, .int .i64 0, .bool false]) ∧ i.size = 3 ∧ i.bytes = 40 := info_parts (by kernel_rfl)
theorem PlAt.mono {w : World} {X : Nat → Prop} {g n n' : Nat} {s : Pl} (h : PlAt w X g n s) (hn : n ≤ n') : PlAt w X g n' s := by
  obtain ⟨m, q, h⟩ := h
  exact ⟨m, q, h.top, h.wts.mono hn, h.way.keep hn rfl (fun _ _ _ => rfl), h.xg, h.xm, h.xq, h.lt, h.ok.mono hn⟩
section
variable (w : World)
set_option maxRecDepth 100000 in
set_option maxHeartbeats 8000000 in
theorem chosen_any (g n : Nat) (X S : Nat → Prop) (s : Pl) (hP : PlAt w X g n s) (v : Value) (os : List Og) (hO : OpR S w v os) (hS : ∀ b, S b → ¬ X b ∧ b < w.heap.size) (hF : Fit os) (hc : n + cost os ≤ 2097152) (hc2 : cost os ≤ 1048576) :
    Calls Try.prog 10 #[.pointer (some ⟨g, 0, none⟩), v] w fun e w' => ∃ (r : Value) (X' : Nat → Prop), e = .returned (.tuple #[r, .bool true]) ∧ PlAt w' X' g (n + cost os) (runS s os) ∧ OwC w' w.heap.size X' r (runC s false os) ∧ Ext X w X' w' := by
  obtain ⟨i30, hi, hz, hs, hb⟩ := info30
  have HO := hide hO
  have HP := hide hP
  have HS := hide hS
  have HF := hide hF
  have hcl := cost_len os
  obtain ⟨ao, cap, rfl, hcap, hops⟩ := hO
  have HH := hide hops
  obtain ⟨m, hm⟩ : ∃ m, os.length = m := ⟨_, rfl⟩
  have HLn := hide hm
  have HT : Hid (os.take m = os) := hide (by rw [← hm]; exact List.take_length)
  rw [hm] at hcap HO hcl ⊢
  clear hP hS hF hm hops
  go_enter Try.func10, Try.ntmps10
  go_upto_region 4 with fail
  go_loopw [6, 7, 8] (fun r b i wr => ∃ (k : Nat) (X' : Nat → Prop), k ≤ m ∧ i = .int .i64 (k : Nat) ∧ b = .bool (runB false (os.take k)) ∧ Hid (PlAt wr X' g (n + cost (os.take k)) (runS s (os.take k))) ∧ Hid (OwC wr w.heap.size X' r (runC s false (os.take k))) ∧ Hid (Ext X w X' wr)) (fun _ _ i _ => m - (RowKit.intOf i).toNat)
  case atStart => exact ⟨0, X, by omega, rfl, rfl, hide HP.out, hide (OwC.start _ _ _), hide (Ext.refl _ _)⟩
  case round =>
    obtain ⟨k, X', hk, rfl, rfl, HPk, HOk, HE⟩ := hrel
    by_cases hlt : k < m
    · obtain ⟨o, ho⟩ : ∃ o, os[k]? = some o := ⟨os[k]'(by rw [HLn.out]; exact hlt), List.getElem?_eq_getElem _⟩
      have htk : os.take (k + 1) = os.take k ++ [o] := by
        obtain ⟨h1, h2⟩ := List.getElem?_eq_some_iff.1 ho
        rw [List.take_succ_eq_append_getElem h1, h2]
      have hS1 := congrArg (runS s) htk
      have hB1 := congrArg (runB false) htk
      have hC1 := congrArg (runC s false) htk
      have hK1 := congrArg cost htk
      have hKm := cost_take os (k + 1)
      rw [runS_snoc] at hS1
      rw [runB_snoc] at hB1
      rw [runC_snoc] at hC1
      rw [cost_app] at hK1
      have hKo : cost [o] = o.R.length + 1 := rfl
      obtain ⟨x, u, rfl, hSx, c0, c1, c2, c3, c4, c5⟩ := HH.out k o ho
      have hkeep : ∀ b, S b → wr.heap[b]? = w.heap[b]? := fun b hb => HE.out.mod.block b (HS.out b hb).2 (HS.out b hb).1
      have hxk := hkeep _ hSx
      have c0 := cell_keep c0 hxk
      have c1 := cell_keep c1 hxk
      have c2 := cell_keep c2 hxk
      have c3 := cell_keep c3 hxk
      have c4 := cell_keep c4 hxk
      have c5 := c5.keep hkeep
      have hFo := HF.out o (List.mem_of_getElem? ho)
      have hki : (k : Int) < m := by omega
      clear hxk hkeep hSx
      have HSt := hide (And.intro hS1 (And.intro hB1 (And.intro hC1 hK1)))
      obtain ⟨au, cu, rfl, hcu⟩ := c5.len
      have HC5 := hide c5
      clear hS1 hB1 hC1 htk c5
      obtain ⟨ok, ot, on, om, oR⟩ := o
      dsimp only at c0 c1 c2 c3 c4 hcu
      have ea : ∀ j, x.add (k * 5 + (j + 1)) = (⟨(x.add (k * 5)).block, (x.add (k * 5)).off + (j + 1), none⟩ : Addr) := fun j => by rw [← Addr.add_add]; simp [Addr.add]
      rw [ea 0] at c1
      rw [ea 1] at c2
      rw [ea 2] at c3
      rw [ea 3] at c4
      clear ea
      have hRl : oR.length ≤ 1048576 := by have : cost [(⟨ok, ot, on, om, oR⟩ : Og)] = oR.length + 1 := rfl; omega
      have hnk : n + cost (os.take k) ≤ 2097152 := by have := cost_take os k; omega
      obtain ⟨N, hN⟩ : ∃ N, wr.heap.size = N := ⟨_, rfl⟩
      obtain ⟨zl, hzl⟩ : ∃ zl, oR.length = zl := ⟨_, rfl⟩
      have HZl := hide hzl
      have HP1 : Hid (PlAt (wr.alloc (.cells #[.int .i64 ok, .int .i64 ot, .int .i64 on, .int .i64 om, .slice au zl cu] 40)) X' g (n + cost (os.take k)) (runS s (os.take k))) := hide (HPk.out.below ((Below.refl _ _).alloc (Nat.le_refl _) _))
      have HO1 : Hid (OwC (wr.alloc (.cells #[.int .i64 ok, .int .i64 ot, .int .i64 on, .int .i64 om, .slice au zl cu] 40)) w.heap.size X' _ (runC s false (os.take k))) := hide (HOk.out.below ((Below.refl _ _).alloc (Nat.le_refl _) _))
      have HE1 : Hid (Ext X w X' (wr.alloc (.cells #[.int .i64 ok, .int .i64 ot, .int .i64 on, .int .i64 om, .slice au zl cu] 40))) := hide ⟨HE.out.mod.alloc _, HE.out.new⟩
      have HR1 : Hid (Rd S (wr.alloc (.cells #[.int .i64 ok, .int .i64 ot, .int .i64 on, .int .i64 om, .slice au zl cu] 40)) (.slice au zl cu) oR) := hide (by rw [← hzl]; exact HC5.out.keep (fun b hb => Below.heap_alloc _ _ _ (Nat.lt_of_lt_of_le (HS.out b hb).2 HE.out.mod.size)))
      have HRow : Hid ((wr.alloc (.cells #[.int .i64 ok, .int .i64 ot, .int .i64 on, .int .i64 om, .slice au zl cu] 40)).heap[N]? = some (.cells #[.int .i64 ok, .int .i64 ot, .int .i64 on, .int .i64 om, .slice au zl cu] 40 (0, 0))) := hide (by rw [← hN]; exact heap_alloc_last _ _)
      have hNX : Hid (¬ X' N ∧ w.heap.size ≤ N) := hide ⟨fun h => by have := HPk.out.lt N h; omega, by rw [← hN]; exact HE.out.mod.size⟩
      rw [hzl] at c4 hRl
      clear HPk HOk HE HC5
      go_upto_region 7 with fail
      generalize hW : wr.alloc (.cells #[.int .i64 ok, .int .i64 ot, .int .i64 on, .int .i64 om, .slice au zl cu] 40) = W1 at *
      clear hW c0 c1 c2 c3 c4
      have d0 := cell_of_row _ _ 0 _ _ _ HRow.out
      have d2 := cell_of_row _ _ 2 _ _ _ HRow.out
      have d3 := cell_of_row _ _ 3 _ _ _ HRow.out
      have d4 := cell_of_row _ _ 4 _ _ _ HRow.out
      simp only [List.getElem?_toArray, List.getElem?_cons_zero, List.getElem?_cons_succ] at d0 d2 d3 d4
      obtain ⟨b0, hb0⟩ : ∃ b0, runB false (os.take k) = b0 := ⟨_, rfl⟩
      rw [hb0] at HSt ⊢
      have HZc : Hid (cost [(⟨ok, ot, on, om, oR⟩ : Og)] = zl + 1) := hide (by rw [← hzl]; rfl)
      clear hb0 hKo hKm HH HO ho hcu
      by_cases hk2 : ok = 2
      · subst hk2
        clear d4
        by_cases hgd : 1 ≤ on ∧ 1 ≤ om ∧ om ≤ 8
        · obtain ⟨hg1, hg2, hg3⟩ := hgd
          have hF1 := hFo.1.2
          go_wp2_with fail
          refine (Set_any W1 g _ X' _ HP1.out on om hg1 hg2 hg3 hF1 (by omega)).mono ?_
          rintro e w5 ⟨rfl, hP5, hM5⟩
          have HP5 := hide hP5
          have HO5 := hide (HO1.out.ext ⟨hM5, fun _ h => .inl h⟩)
          have HE5 := hide (HE1.out.trans ⟨hM5, fun _ h => .inl h⟩)
          have hrow := (hM5.block N (Array.getElem?_eq_some_iff.1 HRow.out).1 hNX.out.1).trans HRow.out
          have d2 := cell_of_row _ _ 2 _ _ _ hrow
          have d3 := cell_of_row _ _ 3 _ _ _ hrow
          simp only [List.getElem?_toArray, List.getElem?_cons_zero, List.getElem?_cons_succ] at d2 d3
          clear d0 hP5 hM5 hrow HP1 HO1 HE1
          have fin : Hid (PlAt w5 X' g (n + cost (os.take (k + 1))) (runS s (os.take (k + 1))) ∧ OwC w5 w.heap.size X' _ (runC s false (os.take (k + 1))) ∧ runB false (os.take (k + 1)) = true) := hide (by
            obtain ⟨e1, e2, e3, e4⟩ := HSt.out
            have hgS : goodS ⟨2, ot, on, om, oR⟩ = true := by unfold goodS; simp [hg1, hg2, hg3]
            refine ⟨?_, ?_, ?_⟩
            · rw [e1]; unfold stepS; rw [if_pos rfl, if_pos hgS]
              exact HP5.out.mono (by rw [e4, HZc.out]; omega)
            · rw [e3]; unfold oneC; rw [if_neg (fun h => by have := h.1; simp at this), List.append_nil]; exact HO5.out
            · rw [e2]; unfold setsS; rw [if_pos rfl, hgS]; cases b0 <;> rfl)
          clear HSt HP5 HO5
          cases b0
          all_goals
            go_wp2
            go_roundw
            case rel => exact ⟨k + 1, X', by omega, by go_num, by rw [fin.out.2.2] <;> (try simp) <;> (try omega), hide fin.out.1, hide fin.out.2.1, HE5⟩
            case measure => simp [RowKit.intOf]; omega
        · go_wp2_with fail
          refine (Set_bad W1 g on om hgd).mono ?_
          rintro e w5 ⟨rfl, rfl⟩
          clear d0
          have hgS : goodS ⟨2, ot, on, om, oR⟩ = false := by unfold goodS; simp; omega
          have HG := hide hgS
          clear hgS
          have fin : Hid (PlAt w5 X' g (n + cost (os.take (k + 1))) (runS s (os.take (k + 1))) ∧ OwC w5 w.heap.size X' _ (runC s false (os.take (k + 1))) ∧ runB false (os.take (k + 1)) = b0) := hide (by
            obtain ⟨e1, e2, e3, e4⟩ := HSt.out
            refine ⟨?_, ?_, ?_⟩
            · rw [e1]; unfold stepS; rw [if_pos rfl, if_neg (by rw [HG.out]; simp)]
              exact HP1.out.mono (by rw [e4]; omega)
            · rw [e3]; unfold oneC; rw [if_neg (fun h => by have := h.1; simp at this), List.append_nil]; exact HO1.out
            · rw [e2]; unfold setsS; rw [if_pos rfl, HG.out]; cases b0 <;> rfl)
          have hgd2 : (decide (1 ≤ on) && decide (1 ≤ om) && decide (om ≤ 8)) = false := by
            have := HG.out
            unfold goodS at this
            exact this
          by_cases q1 : 1 ≤ on
          · by_cases q2 : 1 ≤ om
            · have q3 : ¬ om ≤ 8 := by omega
              clear hgd hgd2 HSt
              cases b0
              all_goals
                go_wp2
                go_roundw
                case rel => exact ⟨k + 1, X', by omega, by go_num, by rw [fin.out.2.2] <;> (try simp) <;> (try omega), hide fin.out.1, hide fin.out.2.1, HE1⟩
                case measure => simp [RowKit.intOf]; omega
            · clear hgd hgd2 HSt
              cases b0
              all_goals
                go_wp2
                go_roundw
                case rel => exact ⟨k + 1, X', by omega, by go_num, by rw [fin.out.2.2] <;> (try simp) <;> (try omega), hide fin.out.1, hide fin.out.2.1, HE1⟩
                case measure => simp [RowKit.intOf]; omega
          · clear hgd hgd2 HSt
            cases b0
            all_goals
              go_wp2
              go_roundw
              case rel => exact ⟨k + 1, X', by omega, by go_num, by rw [fin.out.2.2] <;> (try simp) <;> (try omega), hide fin.out.1, hide fin.out.2.1, HE1⟩
              case measure => simp [RowKit.intOf]; omega
      have hk2b : (ok == 2) = false := by simpa using hk2
      by_cases hk3 : ok = 3
      · subst hk3
        clear hk2 hk2b d2 d3
        go_wp2_with fail
        refine (ownInts_any W1 S _ oR HR1.out (fun b hb => Nat.lt_of_lt_of_le (HS.out b hb).2 HE1.out.mod.size) (by rw [HZl.out]; exact hRl)).mono ?_
        rintro e w2 ⟨r1, rfl, ho1, hb1⟩
        have HP2 := hide (HP1.out.below hb1)
        have HO2 := hide (HO1.out.below hb1)
        have HE2 : Hid (Ext X w X' w2) := hide (HE1.out.trans ⟨(Mod.of_below hb1), fun _ h => .inl h⟩)
        have HR2 := hide (HR1.out.keep (fun b hb => hb1.block b (Nat.lt_of_lt_of_le (HS.out b hb).2 HE1.out.mod.size)))
        have HRow2 := hide ((hb1.block N (Array.getElem?_eq_some_iff.1 HRow.out).1).trans HRow.out)
        have HR1o := hide ho1
        have hs2 := hb1.size
        clear d0 d4 ho1 hb1 HP1 HO1 HE1 HR1
        have hNl : N < w2.heap.size := (Array.getElem?_eq_some_iff.1 HRow2.out).1
        have HMay := hide (mayF_prB oR)
        go_wp2_with fail
        refine (Next_any w2 g _ X' _ _ HP2.out r1 oR HR1o.out.rd (fun b hb => hb.2.1) (by rw [HZl.out]; exact hRl) hFo.2 hnk).mono ?_
        rintro e w5 (⟨hmf, rfl, hb5⟩ | ⟨hmf, rfl, X5, hp5, he5⟩)
        · have HP5 := hide (HP2.out.below hb5)
          have HO5 := hide (HO2.out.below hb5)
          have HE5 : Hid (Ext X w X' w5) := hide (HE2.out.trans ⟨(Mod.of_below hb5), fun _ h => .inl h⟩)
          have HR5 := hide (HR2.out.keep (fun b hb => hb5.block b (Nat.lt_of_lt_of_le (HS.out b hb).2 HE2.out.mod.size)))
          have HRow5 := hide ((hb5.block N hNl).trans HRow2.out)
          have HMf := hide hmf
          have fin : Hid (∀ w', Drews w5 w' → PlAt w' X' g (n + cost (os.take (k + 1))) (runS s (os.take (k + 1))) ∧ OwC w' w.heap.size X' _ (runC s false (os.take (k + 1))) ∧ runB false (os.take (k + 1)) = b0 ∧ Ext X w X' w') := hide (by
            intro w' hd
            obtain ⟨e1, e2, e3, e4⟩ := HSt.out
            refine ⟨?_, ?_, ?_, HE5.out.trans ⟨hd.mod _, fun _ h => .inl h⟩⟩
            · rw [e1]; unfold stepS; rw [if_neg (by simp), if_pos rfl, if_neg HMf.out]
              exact (HP5.out.below (hd.below _)).mono (by rw [e4]; omega)
            · rw [e3]; unfold oneC; rw [if_neg (fun h => HMf.out h.2), List.append_nil]; exact HO5.out.below (hd.below _)
            · rw [e2]; unfold setsS; rw [if_neg (by simp), if_pos rfl, if_neg HMf.out])
          have d4 := cell_of_row _ _ 4 _ _ _ HRow5.out
          simp only [List.getElem?_toArray, List.getElem?_cons_zero, List.getElem?_cons_succ] at d4
          have hcode : Hid ((prB oR = false → mayF (srt oR) = 1) ∧ (prB oR = true → zl = 0 ∧ mayF (srt oR) = 91)) := hide (by
            have h9 := HMay.out
            refine ⟨fun h => by rw [h9, if_pos h], fun h => ?_⟩
            rw [if_neg (by rw [h]; simp)] at h9
            by_cases hn : oR = []
            · rw [if_pos hn] at h9
              exact ⟨by rw [← HZl.out, hn]; rfl, h9⟩
            · rw [if_neg hn] at h9
              exact absurd h9 HMf.out)
          have HPr := hide (proper_any w5 S _ oR HR5.out (by rw [HZl.out]; exact hRl))
          clear hmf hb5 HP2 HO2 HE2 HR2 HRow2 HP5 HO5 HE5 HSt HMay
          cases hpr : prB oR with
          | false =>
            have hc9 := hcode.out.1 hpr
            rw [hpr] at HPr
            rw [hc9]
            clear hpr hc9
            go_wp2_with fail
            refine HPr.out.mono ?_
            rintro e w6 ⟨rfl, hd6⟩
            have HD6 := hide hd6
            have d4 := (hd6.cell _).trans d4
            clear hd6
            go_wp2
            go_roundw
            case rel => exact ⟨k + 1, X', by omega, by go_num, by rw [(fin.out _ HD6.out).2.2.1], hide (fin.out _ HD6.out).1, hide (fin.out _ HD6.out).2.1, hide (fin.out _ HD6.out).2.2.2⟩
            case measure => simp [RowKit.intOf]; omega
          | true =>
            obtain ⟨hz0, hc9⟩ := hcode.out.2 hpr
            subst hz0
            rw [hpr] at HPr
            rw [hc9]
            clear hpr hc9
            go_wp2_with fail
            refine HPr.out.mono ?_
            rintro e w6 ⟨rfl, hd6⟩
            have HD6 := hide hd6
            have d4 := (hd6.cell _).trans d4
            clear hd6
            go_wp2
            go_roundw
            case rel => exact ⟨k + 1, X', by omega, by go_num, by rw [(fin.out _ HD6.out).2.2.1], hide (fin.out _ HD6.out).1, hide (fin.out _ HD6.out).2.1, hide (fin.out _ HD6.out).2.2.2⟩
            case measure => simp [RowKit.intOf]; omega
        · obtain ⟨hne, hnd, hge⟩ := mayF_ok hmf
          have hpk : pick (runS s (os.take k)) (srt oR) ∈ oR := srt_mem.1 (pick_mem hne)
          have HPk2 := hide hpk
          obtain ⟨c, hcv⟩ : ∃ c, pick (runS s (os.take k)) (srt oR) = c := ⟨_, rfl⟩
          have HCv := hide hcv
          rw [hcv] at hpk ⊢
          have hzp : 0 < zl := by
            rw [← hzl]
            exact List.length_pos_iff.2 (fun h => by rw [h] at hpk; cases hpk)
          have HMf := hide hmf
          have hpr : prB oR = true := by
            have h9 := HMay.out
            rw [hmf] at h9
            cases hq : prB oR with
            | true => rfl
            | false => rw [hq, if_pos rfl] at h9; omega
          have HP5 := hide hp5
          have HO5 := hide (HO2.out.ext he5)
          have HE5 := hide (HE2.out.trans he5)
          have hSn : ∀ b, S b → b < w2.heap.size ∧ ¬ X' b := fun b hb => ⟨Nat.lt_of_lt_of_le (HS.out b hb).2 HE2.out.mod.size, fun h => by
            rcases HE2.out.new b h with h | h
            · exact (HS.out b hb).1 h
            · have := (HS.out b hb).2; omega⟩
          have HR5 := hide (HR2.out.keep (fun b hb => he5.mod.block b (hSn b hb).1 (hSn b hb).2))
          have HRow5 := hide ((he5.mod.block N hNl hNX.out.1).trans HRow2.out)
          have hs5 := he5.mod.size
          have HSl : Hid (∀ b, S b → b < w5.heap.size) := hide (fun b hb => Nat.lt_of_lt_of_le (hSn b hb).1 hs5)
          have d4 := cell_of_row _ _ 4 _ _ _ HRow5.out
          simp only [List.getElem?_toArray, List.getElem?_cons_zero, List.getElem?_cons_succ] at d4
          have hz1 : ((zl : Int) == 0) = false := by simp; omega
          have HPr := hide (proper_any w5 S _ oR HR5.out (by rw [HZl.out]; exact hRl))
          rw [hpr] at HPr
          clear hmf hp5 he5 hcv HP2 HO2 HE2 HR2 HRow2 HR1o hne hnd hge hpr hSn HMay
          go_wp2_with fail
          refine HPr.out.mono ?_
          rintro e w6 ⟨rfl, hd6⟩
          have HP6 := hide (HP5.out.below (hd6.below _))
          have HO6 := hide (HO5.out.below (hd6.below _))
          have HE6 : Hid (Ext X w X5 w6) := hide (HE5.out.trans ⟨hd6.mod _, fun _ h => .inl h⟩)
          have HR6 := hide (HR5.out.keep (w' := w6) (fun b hb => by rw [hd6.heap]))
          have HRow6 : Hid (w6.heap[N]? = some (.cells #[.int .i64 3, .int .i64 ot, .int .i64 on, .int .i64 om, .slice au zl cu] 40 (0, 0))) := hide (by rw [hd6.heap]; exact HRow5.out)
          have HSl6 : Hid (∀ b, S b → b < w6.heap.size) := hide (fun b hb => by rw [hd6.heap]; exact HSl.out b hb)
          have d4 := (hd6.cell _).trans d4
          clear hd6 HPr HP5 HO5 HE5 HR5 HRow5 HSl hs5
          go_wp2_with fail
          refine (in_any w6 S _ oR HR6.out (by rw [HZl.out]; omega) c).mono ?_
          rw [decide_eq_true hpk]
          rintro e w7 ⟨rfl, rfl⟩
          go_wp2_with fail
          refine (ownInts_any w7 S _ oR HR6.out HSl6.out (by rw [HZl.out]; exact hRl)).mono ?_
          rintro e w8 ⟨r2, rfl, ho2, hb8⟩
          obtain ⟨ar, cr, rfl⟩ := own_shape ho2
          rw [HZl.out] at ho2 ⊢
          have HO8 := hide (HO6.out.below hb8)
          obtain ⟨us, hu1, hu2, hu3, hu4⟩ := HO8.out
          have HU := hide (And.intro hu1 (And.intro hu2 (And.intro hu3 hu4)))
          have HI8 := hide (ho2.low (base' := w.heap.size) HE6.out.mod.size)
          have HIX : Hid (∀ b, (Value.slice ar zl cr).ownBlock = some b → ¬ X5 b) := hide (fun b hb h => by
            have := (ho2.lt b hb).1
            have := HP6.out.lt b h
            omega)
          have HP8 := hide (HP6.out.below hb8)
          have HE8 : Hid (Ext X w X5 w8) := hide (HE6.out.trans ⟨Mod.of_below hb8, fun _ h => .inl h⟩)
          have hws : w.heap.size ≤ w8.heap.size := HE8.out.mod.size
          have hll : (runC s false (os.take k)).length ≤ 1048576 := by
            have h1 := runC_len (os.take k) s false
            have h2 := List.length_take_le k os
            omega
          clear hu1 hu2 hu3 hu4 ho2 hb8 HO8 HO6 HP6 HE6 HR6 d4 HRow6
          go_wp2_with (refine wpList_append_own_at _ rfl (.tmp 106) (.tmp 113) 25 rfl w.heap.size 30 i30 _ 3 40 Try.underlying25 hi hz hs hb rfl (by decide) _ (runC s false (os.take k)).length _ rfl (World.ownsRow.alloc HU.out.2.1 _) (⟨w8.heap.size, 0, none⟩) 1 1 [Value.slice ar zl cr, .int .i64 c, .bool b0] rfl rfl (cell_row_new _ #[Value.slice ar zl cr, .int .i64 c, .bool b0] _) (by simp [Value.oneCell']) (by unfold maxLen; omega) (by omega) (by simp; omega) ?_; intro v' w9 hown hg9 _ hat)
          have HOn := hide hown
          have HGr := hide hg9
          have HAt := hide hat
          clear hown hg9 hat
          have fin : Hid (PlAt w9 X5 g (n + cost (os.take (k + 1))) (runS s (os.take (k + 1))) ∧ OwC w9 w.heap.size X5 v' (runC s false (os.take (k + 1))) ∧ runB false (os.take (k + 1)) = false ∧ Ext X w X5 w9) := hide (by
            obtain ⟨e1, e2, e3, e4⟩ := HSt.out
            obtain ⟨hu1, hu2, hu3, hu4⟩ := HU.out
            have hbl : ∀ b, b < w8.heap.size → some b ≠ (Value.ownBlock _) → w9.heap[b]? = w8.heap[b]? := fun b hb hn => (HGr.out.block b (by simp; omega) hn).trans (Below.heap_alloc _ _ _ hb)
            have hsz : w8.heap.size ≤ w9.heap.size := by have := HGr.out.size; simp at this; omega
            refine ⟨?_, ?_, ?_, ⟨?_, HE8.out.new⟩⟩
            · rw [e1]; unfold stepS; rw [if_neg (by simp), if_pos rfl, if_pos HMf.out]
              exact (HP8.out.keep hsz (fun b hb => hbl b (HP8.out.lt b hb) (fun e => hu3 b e.symm hb))).mono (by rw [e4, HZc.out, HZl.out]; omega)
            · rw [e3]; unfold oneC; rw [if_pos ⟨rfl, HMf.out⟩, HCv.out]
              exact OwC.grow (w := w8.alloc (.cells #[Value.slice ar zl cr, .int .i64 c, .bool b0] 30)) hu1 (World.ownsRow.alloc hu2 _) hu3 (fun i u' c' h1 h2 => ⟨World.ownsRow.alloc (hu4 i u' c' h1 h2).1 _, (hu4 i u' c' h1 h2).2⟩) (World.ownsRow.alloc HI8.out _) HIX.out (fun b hb => by have := HP8.out.lt b hb; simp; omega) HOn.out HGr.out HAt.out
            · rw [e2]; unfold setsS; rw [if_neg (by simp), if_pos rfl, if_pos HMf.out]
            · have hm := HE8.out.mod
              refine ⟨HGr.out.os.trans hm.os, HGr.out.tape.trans hm.tape, HGr.out.output.trans hm.output, Nat.le_trans hm.size hsz, fun b hb hx => ?_⟩
              rw [hbl b (by omega) (fun e => by have := (World.ownsRow.lt hu2 b e.symm).1; omega)]
              exact hm.block b hb hx)
          clear HSt HU HGr HAt
          go_roundw
          case rel => exact ⟨k + 1, X5, by omega, by go_num, by rw [fin.out.2.2.1], hide fin.out.1, hide fin.out.2.1, hide fin.out.2.2.2⟩
          case measure => simp [RowKit.intOf]; omega
      have hk3b : (ok == 3) = false := by simpa using hk3
      have fin : Hid (PlAt W1 X' g (n + cost (os.take (k + 1))) (runS s (os.take (k + 1))) ∧ OwC W1 w.heap.size X' _ (runC s false (os.take (k + 1))) ∧ runB false (os.take (k + 1)) = b0) := hide (by
        obtain ⟨e1, e2, e3, e4⟩ := HSt.out
        refine ⟨?_, ?_, ?_⟩
        · rw [e1]; unfold stepS; rw [if_neg hk2, if_neg hk3]
          exact HP1.out.mono (by rw [e4]; omega)
        · rw [e3]; unfold oneC; rw [if_neg (fun h => hk3 h.1), List.append_nil]; exact HO1.out
        · rw [e2]; unfold setsS; rw [if_neg hk2, if_neg hk3])
      clear hk2 hk3
      go_wp2
      go_roundw
      case rel => exact ⟨k + 1, X', by omega, by go_num, by rw [fin.out.2.2] <;> (try simp) <;> (try omega), hide fin.out.1, hide fin.out.2.1, HE1⟩
      case measure => simp [RowKit.intOf]; omega
    · obtain rfl : k = m := by omega
      go_wp2
      go_ret2
      have h1 := HPk.out
      have h2 := HOk.out
      rw [HT.out] at h1 h2
      exact ⟨_, X', rfl, h1, h2, HE.out⟩
end
end Go.Proofs.Ytngmnlmagbfijaa
