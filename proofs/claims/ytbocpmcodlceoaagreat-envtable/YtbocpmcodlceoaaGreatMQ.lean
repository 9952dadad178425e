import Derived.Test.YtbocpmcodlceoaaGreatMO
import Derived.Test.YtbocpmcodlceoaaGreatMP
namespace Go.Proofs.YtbocpmcodlceoaaGreat
open Go.ChangeShapes Go.WideShapes Go.ChangeAt Go.RowKit Go.Deep Go.Shelf

/-- the program's table -/
def EtA (T : Nat) (rs : List (Option Er)) (last : Int) : Asn := fun w F => Et w F T rs last
theorem good_et (T : Nat) (rs : List (Option Er)) (last : Int) : Good (EtA T rs last) := ⟨fun h b hb => Et.lt h b hb, fun h hs hk => Et.keep h hs hk⟩
/-- both tables, alike -/
def PrA (T R : Nat) : Asn := fun w F => ∃ rs last, star (EtA T rs last) (RtA R rs last) w F ∧ Iv rs last ∧ Wd rs
theorem good_pr (T R : Nat) : Good (PrA T R) := by
  refine ⟨?_, ?_⟩
  · rintro W H ⟨rs, last, h, _⟩
    exact ((good_et T rs last).star (good_rt R rs last)).lt h
  · rintro W W' H ⟨rs, last, h, hf⟩ hs hk
    exact ⟨rs, last, ((good_et T rs last).star (good_rt R rs last)).keep h hs hk, hf⟩
theorem Good.below {A : Asn} (hA : Good A) {w w' : World} {F : Nat → Prop} (h : A w F) (hb : Below w.heap.size w w') : A w' F := hA.keep h hb.size (fun b hb' => hb.block b (hA.lt h b hb'))
/-- one after the other -/
theorem star_two {X Y : Asn} (gX : Good X) (gY : Good Y) {w : World} {F : Nat → Prop} (h : star X Y w F) :
    ∃ F1 F2, X w F1 ∧ (∀ b, F1 b → F b) ∧ (∀ b, F2 b → F b ∧ b < w.heap.size) ∧ ∀ (X' : Asn), Good X' → ∀ w2 F1', X' w2 F1' → Ext F1 w F1' w2 → ∀ w3, Below w2.heap.size w2 w3 → Y w3 F2 ∧ ∀ (Y' : Asn), Good Y' → ∀ w4 F2', Y' w4 F2' → Ext F2 w3 F2' w4 → ∃ F', star X' Y' w4 F' ∧ Ext F w F' w4 := by
  obtain ⟨F1, F2, h1, h2, he, hd⟩ := h
  have l1 := gX.lt h1
  have l2 := gY.lt h2
  refine ⟨F1, F2, h1, fun b hb => (he b).2 (.inl hb), fun b hb => ⟨(he b).2 (.inr hb), l2 b hb⟩, fun X' gX' w2 F1' x1 e1 w3 hb => ?_⟩
  have hY2 : Y w2 F2 := gY.keep h2 e1.mod.size (fun b hb' => e1.mod.block b (l2 b hb') (fun hf => hd b hf hb'))
  have hY3 := gY.below hY2 hb
  refine ⟨hY3, fun Y' gY' w4 F2' y4 e2 => ?_⟩
  have s1 := e1.mod.size
  have s2 := hb.size
  have s3 := e2.mod.size
  have hX3 := gX'.below x1 hb
  have l1' := gX'.lt x1
  have n12 : ∀ b, F1' b → ¬ F2 b := fun b hb1 hb2 => by
    rcases e1.new b hb1 with h3 | h3
    · exact hd b h3 hb2
    · have := l2 b hb2; omega
  refine ⟨fun b => F1' b ∨ F2' b, ⟨F1', F2', gX'.keep hX3 s3 (fun b hb' => e2.mod.block b (Nat.lt_of_lt_of_le (l1' b hb') s2) (n12 b hb')), y4, fun _ => Iff.rfl, fun b hb1 hb2 => ?_⟩, ⟨⟨?_, ?_, ?_, by omega, fun b hb' hF => ?_⟩, ?_⟩⟩
  · rcases e2.new b hb2 with h3 | h3
    · exact n12 b hb1 h3
    · have := l1' b hb1; omega
  · exact e2.mod.os.trans (hb.os.trans e1.mod.os)
  · exact e2.mod.tape.trans (hb.tape.trans e1.mod.tape)
  · exact e2.mod.output.trans (hb.output.trans e1.mod.output)
  · rw [e2.mod.block b (by omega) (fun h3 => hF ((he b).2 (.inr h3))), hb.block b (by omega), e1.mod.block b hb' (fun h3 => hF ((he b).2 (.inl h3)))]
  · rintro b (h3 | h3)
    · rcases e1.new b h3 with h4 | h4
      · exact .inl ((he b).2 (.inl h4))
      · exact .inr h4
    · rcases e2.new b h3 with h4 | h4
      · exact .inl ((he b).2 (.inr h4))
      · exact .inr (by omega)
theorem Mod.wide {F G : Nat → Prop} {a b : World} (h : Mod F a b) (hF : ∀ x, F x → G x) : Mod G a b := ⟨h.os, h.tape, h.output, h.size, fun k hk hn => h.block k hk (fun hf => hn (hF k hf))⟩
/-- a call on both: one answer, both tables alike -/
def Two (T R : Nat) (f g : FuncId) (xs ys : Array Value) (S : Value → Prop) : Prop := ∀ (w : World) (F1 : Nat → Prop) (rs : List (Option Er)) (last : Int), Et w F1 T rs last → Iv rs last → Wd rs → ∃ (v : Value) (rs' : List (Option Er)) (last' : Int), S v ∧ Iv rs' last' ∧ Wd rs' ∧
  (Calls Tryz.prog f xs w fun x w' => x = .returned v ∧ ∃ F1', Et w' F1' T rs' last' ∧ Ext F1 w F1' w') ∧ ∀ (w3 : World) (F2 : Nat → Prop), RtA R rs last w3 F2 → Calls Tryz.prog g ys w3 fun x w' => x = .returned v ∧ ∃ F2', RtA R rs' last' w' F2' ∧ Ext F2 w3 F2' w'
theorem Two.run {T R : Nat} {f g : FuncId} {xs ys : Array Value} {S : Value → Prop} (h2 : Two T R f g xs ys S) {w : World} {F : Nat → Prop} (h : PrA T R w F) :
    Calls Tryz.prog f xs w fun x w2 => ∃ v, S v ∧ x = .returned v ∧ Mod F w w2 ∧ ∀ w3, Below w2.heap.size w2 w3 → Calls Tryz.prog g ys w3 fun y w4 => y = .returned v ∧ ∃ F', PrA T R w4 F' ∧ Ext F w F' w4 ∧ Mod F w3 w4 := by
  obtain ⟨rs, last, hs, iv, wd⟩ := h
  obtain ⟨F1, F2, g1, gF, gL, g2⟩ := star_two (good_et T rs last) (good_rt R rs last) hs
  obtain ⟨v, rs', last', hv, iv', wd', hP, hD⟩ := h2 w F1 rs last g1 iv wd
  refine hP.mono ?_
  rintro x w2 ⟨rfl, F1', hE, hX⟩
  refine ⟨v, hv, rfl, hX.mod.wide gF, fun w3 hb => ?_⟩
  obtain ⟨hR, g3⟩ := g2 (EtA T rs' last') (good_et T rs' last') w2 F1' hE hX w3 hb
  refine (hD w3 F2 hR).mono ?_
  rintro y w4 ⟨rfl, F2', hR4, hX4⟩
  obtain ⟨F', h3, h4⟩ := g3 (RtA R rs' last') (good_rt R rs' last') w4 F2' hR4 hX4
  exact ⟨rfl, F', ⟨rs', last', h3, iv', wd'⟩, h4, hX4.mod.wide (fun b hb' => (gL b hb').1)⟩
/-- the same where the answer is a list -/
def TwoR (T R : Nat) (f g : FuncId) (xs ys : Array Value) (mk : Int → Value → Value) : Prop := ∀ (w : World) (F1 : Nat → Prop) (rs : List (Option Er)) (last : Int), Et w F1 T rs last → Iv rs last → Wd rs → ∃ (l : List Nat) (c : Int) (rs' : List (Option Er)) (last' : Int), l.length ≤ 4096 ∧ Iv rs' last' ∧ Wd rs' ∧
  (Calls Tryz.prog f xs w fun x w' => ∃ u, x = .returned (mk c u) ∧ w'.ownsRow w.heap.size 3 1 u l.length (numN l) ∧ ∃ F1', Et w' F1' T rs' last' ∧ Ext F1 w F1' w') ∧ ∀ (w3 : World) (F2 : Nat → Prop), RtA R rs last w3 F2 → Calls Tryz.prog g ys w3 fun x w' => ∃ u, x = .returned (mk c u) ∧ w'.ownsRow w3.heap.size 3 1 u l.length (numN l) ∧ ∃ F2', RtA R rs' last' w' F2' ∧ Ext F2 w3 F2' w'
theorem TwoR.run {T R : Nat} {f g : FuncId} {xs ys : Array Value} {mk : Int → Value → Value} (h2 : TwoR T R f g xs ys mk) {w : World} {F : Nat → Prop} (h : PrA T R w F) :
    Calls Tryz.prog f xs w fun x w2 => ∃ (u : Value) (c : Int) (l : List Nat), x = .returned (mk c u) ∧ l.length ≤ 4096 ∧ w2.ownsRow 0 3 1 u l.length (numN l) ∧ Mod F w w2 ∧ ∀ w3, Below w2.heap.size w2 w3 → Calls Tryz.prog g ys w3 fun y w4 => ∃ u2, y = .returned (mk c u2) ∧ w4.ownsRow 0 3 1 u l.length (numN l) ∧ w4.ownsRow 0 3 1 u2 l.length (numN l) ∧ ∃ F', PrA T R w4 F' ∧ Ext F w F' w4 ∧ Mod F w3 w4 := by
  obtain ⟨rs, last, hs, iv, wd⟩ := h
  obtain ⟨F1, F2, g1, gF, gL, g2⟩ := star_two (good_et T rs last) (good_rt R rs last) hs
  obtain ⟨l, c, rs', last', hv, iv', wd', hP, hD⟩ := h2 w F1 rs last g1 iv wd
  refine hP.mono ?_
  rintro x w2 ⟨u, rfl, ho, F1', hE, hX⟩
  refine ⟨u, c, l, rfl, hv, own_low ho (Nat.zero_le _), hX.mod.wide gF, fun w3 hb => ?_⟩
  obtain ⟨hR, g3⟩ := g2 (EtA T rs' last') (good_et T rs' last') w2 F1' hE hX w3 hb
  refine (hD w3 F2 hR).mono ?_
  rintro y w4 ⟨u2, rfl, ho2, F2', hR4, hX4⟩
  obtain ⟨F', h3, h4⟩ := g3 (RtA R rs' last') (good_rt R rs' last') w4 F2' hR4 hX4
  refine ⟨u2, rfl, ?_, own_low ho2 (Nat.zero_le _), F', ⟨rs', last', h3, iv', wd'⟩, h4, hX4.mod.wide (fun b hb' => (gL b hb').1)⟩
  refine own_low (ownsRow_keep (own_below ho hb) (fun b hb' => ?_)) (Nat.zero_le _)
  have h5 := World.ownsRow.lt ho b hb'
  exact hX4.mod.block b (Nat.lt_of_lt_of_le h5.2 hb.size) (fun h6 => by have := (gL b h6).2; omega)
section
variable {w w3 : World} {T R : Nat} {F1 F2 : Nat → Prop} {rs rs' : List (Option Er)} {last : Int} {f : FuncId} {xs : Array Value} {v : Value}
theorem cP_same (hE : Et w F1 T rs last) (h : Calls Tryz.prog f xs w fun x w' => x = .returned v ∧ w' = w) : Calls Tryz.prog f xs w fun x w' => x = .returned v ∧ ∃ F1', Et w' F1' T rs last ∧ Ext F1 w F1' w' :=
  h.mono (fun _ _ ⟨h1, h2⟩ => ⟨h1, F1, by rw [h2]; exact ⟨hE, Ext.refl _ _⟩⟩)
theorem cP_bel (hE : Et w F1 T rs last) (h : Calls Tryz.prog f xs w fun x w' => x = .returned v ∧ Below w.heap.size w w') : Calls Tryz.prog f xs w fun x w' => x = .returned v ∧ ∃ F1', Et w' F1' T rs last ∧ Ext F1 w F1' w' :=
  h.mono (fun _ _ ⟨h1, h2⟩ => ⟨h1, F1, (good_et T rs last).below (show EtA T rs last w F1 from hE) h2, ext_below h2⟩)
theorem cP_set (h : Calls Tryz.prog f xs w fun x w' => x = .returned v ∧ Et w' F1 T rs' last ∧ Mod F1 w w') : Calls Tryz.prog f xs w fun x w' => x = .returned v ∧ ∃ F1', Et w' F1' T rs' last ∧ Ext F1 w F1' w' :=
  h.mono (fun _ _ ⟨h1, h2, h3⟩ => ⟨h1, F1, h2, h3, fun _ h => .inl h⟩)
theorem cD_same (hR : RtA R rs last w3 F2) (h : Calls Tryz.prog f xs w3 fun x w' => x = .returned v ∧ w' = w3) : Calls Tryz.prog f xs w3 fun x w' => x = .returned v ∧ ∃ F2', RtA R rs last w' F2' ∧ Ext F2 w3 F2' w' :=
  h.mono (fun _ _ ⟨h1, h2⟩ => ⟨h1, F2, by rw [h2]; exact ⟨hR, Ext.refl _ _⟩⟩)
theorem cD_bel (hR : RtA R rs last w3 F2) (h : Calls Tryz.prog f xs w3 fun x w' => x = .returned v ∧ Below w3.heap.size w3 w') : Calls Tryz.prog f xs w3 fun x w' => x = .returned v ∧ ∃ F2', RtA R rs last w' F2' ∧ Ext F2 w3 F2' w' :=
  h.mono (fun _ _ ⟨h1, h2⟩ => ⟨h1, F2, (good_rt R rs last).below hR h2, ext_below h2⟩)
theorem cD_set (h : Calls Tryz.prog f xs w3 fun x w' => x = .returned v ∧ RtA R rs' last w' F2 ∧ Ext F2 w3 F2 w') : Calls Tryz.prog f xs w3 fun x w' => x = .returned v ∧ ∃ F2', RtA R rs' last w' F2' ∧ Ext F2 w3 F2' w' :=
  h.mono (fun _ _ ⟨h1, h2, h3⟩ => ⟨h1, F2, h2, h3⟩)
end
def isN (v : Value) : Prop := ∃ c : Int, v = .int .i64 c
def isNN (v : Value) : Prop := ∃ c d : Int, v = .tuple #[.int .i64 c, .int .i64 d]
def isB (v : Value) : Prop := ∃ b : Bool, v = .bool b
def isE (v : Value) : Prop := ∃ (e : Er) (c : Int), v = .tuple #[.agg e.head.toArray, .int .i64 c]
def mkT (c : Int) (u : Value) : Value := .tuple #[u, .int .i64 c]
def mkU (_ : Int) (u : Value) : Value := u
theorem Wd.pay {rs : List (Option Er)} (wd : Wd rs) (e : Int) (q : Qt) : Wd (payS rs e q) := by
  unfold payS
  cases hl : look rs e with
  | none => exact wd
  | some r =>
    obtain ⟨k, rfl, hr⟩ := look_some hl
    dsimp only
    split
    · split
      · exact wd.set (wd k r hr)
      · exact wd
    · exact wd
theorem Wd.refund {rs : List (Option Er)} (wd : Wd rs) (e : Int) (q : Qt) : Wd (refS rs e q) := by
  unfold refS
  cases hl : look rs e with
  | none => exact wd
  | some r =>
    obtain ⟨k, rfl, hr⟩ := look_some hl
    dsimp only
    split
    · exact wd.set (wd k r hr)
    · exact wd
theorem Wd.drops : ∀ (l : List Nat) {rs : List (Option Er)}, Wd rs → Wd (Go.Proofs.YtbocpmcodlceoaaGreat.drops rs l)
  | [], _, h => h
  | c :: l, rs, h => by
    show Wd (Go.Proofs.YtbocpmcodlceoaaGreat.drops (rs.set c none) l)
    refine Wd.drops l (fun k r hr => ?_)
    rw [List.getElem?_set] at hr
    split at hr
    · split at hr <;> cases hr
    · exact h k r hr
end Go.Proofs.YtbocpmcodlceoaaGreat

namespace Go.Proofs.YtbocpmcodlceoaaGreat
open Go.ChangeShapes Go.WideShapes Go.ChangeAt Go.RowKit Go.Deep Go.Shelf

theorem two_regs (T R : Nat) (e : Int) (g : Nat → Nat) (pc : Nat) : Two T R 23 24 #[tp T, .int .i64 e, .agg (regsL g pc).toArray] #[tp R, .int .i64 e, .agg (regsL g pc).toArray] isN := by
  intro w F1 rs last hE iv wd
  cases hl : look rs e with
  | none =>
    exact ⟨.int .i64 90, rs, last, ⟨_, rfl⟩, iv, wd, cP_bel hE (setRegsNone_any w F1 T rs last hE e hl g pc), fun w3 F2 hR => cD_bel hR (setRegsD_none hR iv.tr.len e hl g pc)⟩
  | some r =>
    obtain ⟨k, rfl, hr⟩ := look_some hl
    exact ⟨.int .i64 0, rs.set k (some { r with rg := g, pc := pc }), last, ⟨_, rfl⟩, iv.keepq hr rfl rfl rfl rfl rfl, wd.set (wd k r hr), cP_set (setRegs_any w F1 T rs last hE k r hr g pc), fun w3 F2 hR => cD_set (setRegsD_some hR iv.tr.len k r hr g pc)⟩
theorem two_state (T R : Nat) (e st co : Int) : Two T R 25 26 #[tp T, .int .i64 e, .int .i64 st, .int .i64 co] #[tp R, .int .i64 e, .int .i64 st, .int .i64 co] isN := by
  intro w F1 rs last hE iv wd
  cases hl : look rs e with
  | none =>
    exact ⟨.int .i64 90, rs, last, ⟨_, rfl⟩, iv, wd, cP_same hE (setStateNone_any w F1 T rs last hE e hl st co), fun w3 F2 hR => cD_same hR (setStateD_none hR iv.tr.len e hl st co)⟩
  | some r =>
    obtain ⟨k, rfl, hr⟩ := look_some hl
    by_cases h1 : st < 0
    · exact ⟨.int .i64 1, rs, last, ⟨_, rfl⟩, iv, wd, cP_same hE (setStateBad1_any w F1 T rs last hE k r hr st co h1), fun w3 F2 hR => cD_same hR (setStateD_bad1 hR iv.tr.len k r hr st co h1)⟩
    by_cases h2 : 4 < st
    · exact ⟨.int .i64 1, rs, last, ⟨_, rfl⟩, iv, wd, cP_same hE (setStateBad2_any w F1 T rs last hE k r hr st co h2), fun w3 F2 hR => cD_same hR (setStateD_bad2 hR iv.tr.len k r hr st co h2)⟩
    by_cases h3 : co < 0
    · exact ⟨.int .i64 1, rs, last, ⟨_, rfl⟩, iv, wd, cP_same hE (setStateBad3_any w F1 T rs last hE k r hr st co ⟨by omega, by omega⟩ (by omega)), fun w3 F2 hR => cD_same hR (setStateD_bad3 hR iv.tr.len k r hr st co ⟨by omega, by omega⟩ h3)⟩
    by_cases h4 : 4294967295 < co
    · exact ⟨.int .i64 1, rs, last, ⟨_, rfl⟩, iv, wd, cP_same hE (setStateBad3_any w F1 T rs last hE k r hr st co ⟨by omega, by omega⟩ (by omega)), fun w3 F2 hR => cD_same hR (setStateD_bad4 hR iv.tr.len k r hr st co ⟨by omega, by omega⟩ h4)⟩
    exact ⟨.int .i64 0, rs.set k (some { r with st := st, co := co }), last, ⟨_, rfl⟩, iv.keepq hr rfl rfl rfl rfl rfl, wd.set (wd k r hr), cP_set (setState_any w F1 T rs last hE k r hr st co ⟨by omega, by omega⟩ ⟨by omega, by omega⟩), fun w3 F2 hR => cD_set (setStateD_some hR iv.tr.len k r hr st co ⟨by omega, by omega⟩ ⟨by omega, by omega⟩)⟩
theorem two_bits (T R : Nat) (e z : Int) : Two T R 27 28 #[tp T, .int .i64 e, .int .i64 z] #[tp R, .int .i64 e, .int .i64 z] isN := by
  intro w F1 rs last hE iv wd
  cases hl : look rs e with
  | none =>
    exact ⟨.int .i64 90, rs, last, ⟨_, rfl⟩, iv, wd, cP_same hE (setBitsNone_any w F1 T rs last hE e hl z), fun w3 F2 hR => cD_same hR (setBitsD_none hR iv.tr.len e hl z)⟩
  | some r =>
    obtain ⟨k, rfl, hr⟩ := look_some hl
    by_cases h1 : z < 0
    · exact ⟨.int .i64 1, rs, last, ⟨_, rfl⟩, iv, wd, cP_same hE (setBitsBad_any w F1 T rs last hE k r hr z (by omega)), fun w3 F2 hR => cD_same hR (setBitsD_bad1 hR iv.tr.len k r hr z h1)⟩
    by_cases h2 : 4294967295 < z
    · exact ⟨.int .i64 1, rs, last, ⟨_, rfl⟩, iv, wd, cP_same hE (setBitsBad_any w F1 T rs last hE k r hr z (by omega)), fun w3 F2 hR => cD_same hR (setBitsD_bad2 hR iv.tr.len k r hr z h2)⟩
    exact ⟨.int .i64 0, rs.set k (some { r with bi := z }), last, ⟨_, rfl⟩, iv.keepq hr rfl rfl rfl rfl rfl, wd.set (r' := { r with bi := z }) ⟨by show 0 ≤ z; omega, by show z ≤ 4294967295; omega⟩, cP_set (setBits_any w F1 T rs last hE k r hr z ⟨by omega, by omega⟩), fun w3 F2 hR => cD_set (setBitsD_some hR iv.tr.len k r hr z ⟨by omega, by omega⟩)⟩
theorem two_notify (T R : Nat) (e z : Int) : Two T R 29 30 #[tp T, .int .i64 e, .int .i64 z] #[tp R, .int .i64 e, .int .i64 z] isN := by
  intro w F1 rs last hE iv wd
  cases hl : look rs e with
  | none =>
    exact ⟨.int .i64 90, rs, last, ⟨_, rfl⟩, iv, wd, cP_same hE (notifyNone_any w F1 T rs last hE e hl z), fun w3 F2 hR => cD_same hR (notifyD_none hR iv.tr.len e hl z)⟩
  | some r =>
    obtain ⟨k, rfl, hr⟩ := look_some hl
    by_cases h1 : z < 0
    · exact ⟨.int .i64 1, rs, last, ⟨_, rfl⟩, iv, wd, cP_same hE (notifyBad_any w F1 T rs last hE k r hr z (by omega)), fun w3 F2 hR => cD_same hR (notifyD_bad1 hR iv.tr.len k r hr z h1)⟩
    by_cases h2 : 4294967295 < z
    · exact ⟨.int .i64 1, rs, last, ⟨_, rfl⟩, iv, wd, cP_same hE (notifyBad_any w F1 T rs last hE k r hr z (by omega)), fun w3 F2 hR => cD_same hR (notifyD_bad2 hR iv.tr.len k r hr z h2)⟩
    have hn : 0 ≤ z ∧ z ≤ 4294967295 := ⟨by omega, by omega⟩
    obtain ⟨q1, q2, q3, q4, q5⟩ := noticed_keeps r z
    have hz := or_word r.bi z (wd k r hr) hn
    have q6 : 0 ≤ (noticed r z).bi ∧ (noticed r z).bi ≤ 4294967295 := by unfold noticed; split <;> first | exact hz | exact (show (0 : Int) ≤ 0 ∧ (0 : Int) ≤ 4294967295 from ⟨by decide, by decide⟩)
    exact ⟨.int .i64 0, rs.set k (some (noticed r z)), last, ⟨_, rfl⟩, iv.keepq hr q1 q2 q3 q4 q5, wd.set q6, cP_set (notify_any w F1 T rs last hE k r hr z hn hz), fun w3 F2 hR => cD_set ((by by_cases hc : r.st = 2 ∧ ¬ bits .or .i64 r.bi z = 0; exact notifyD_woken hR iv.tr.len k r hr z hn hc hz; exact notifyD_more hR iv.tr.len k r hr z hn hc))⟩
theorem two_wait (T R : Nat) (e : Int) : Two T R 31 32 #[tp T, .int .i64 e] #[tp R, .int .i64 e] isNN := by
  intro w F1 rs last hE iv wd
  cases hl : look rs e with
  | none =>
    exact ⟨.tuple #[.int .i64 0, .int .i64 90], rs, last, ⟨_, _, rfl⟩, iv, wd, cP_same hE (waitNone_any w F1 T rs last hE e hl), fun w3 F2 hR => cD_same hR (waitD_none hR iv.tr.len e hl)⟩
  | some r =>
    obtain ⟨k, rfl, hr⟩ := look_some hl
    obtain ⟨q1, q2, q3, q4, q5⟩ := waited_keeps r
    have q6 : 0 ≤ (waited r).bi ∧ (waited r).bi ≤ 4294967295 := by unfold waited; split <;> exact (show (0 : Int) ≤ 0 ∧ (0 : Int) ≤ 4294967295 from ⟨by decide, by decide⟩)
    exact ⟨.tuple #[.int .i64 r.bi, .int .i64 0], rs.set k (some (waited r)), last, ⟨_, _, rfl⟩, iv.keepq hr q1 q2 q3 q4 q5, wd.set q6, cP_set (waitSome_any w F1 T rs last hE k r hr), fun w3 F2 hR => cD_set ((by by_cases hb : r.bi = 0; rw [show waited r = { r with st := 2, bi := 0 } by unfold waited; rw [if_pos hb], hb]; exact waitD_idle hR iv.tr.len k r hr hb; rw [show waited r = { r with bi := 0 } by unfold waited; rw [if_neg hb]]; exact waitD_bits hR iv.tr.len k r hr hb))⟩
theorem two_freeze (T R : Nat) (e : Int) (on : Bool) : Two T R 33 34 #[tp T, .int .i64 e, .bool on] #[tp R, .int .i64 e, .bool on] isN := by
  intro w F1 rs last hE iv wd
  cases hl : look rs e with
  | none =>
    exact ⟨.int .i64 90, rs, last, ⟨_, rfl⟩, iv, wd, cP_same hE (freezeNone_any w F1 T rs last hE e hl on), fun w3 F2 hR => cD_same hR (freezeD_none hR iv.tr.len e hl on)⟩
  | some r =>
    obtain ⟨k, rfl, hr⟩ := look_some hl
    exact ⟨.int .i64 0, rs.set k (some { r with fz := on }), last, ⟨_, rfl⟩, iv.keepq hr rfl rfl rfl rfl rfl, wd.set (wd k r hr), cP_set (freeze_any w F1 T rs last hE k r hr on), fun w3 F2 hR => cD_set (freezeD_some hR iv.tr.len k r hr on)⟩
theorem two_pay (T R : Nat) (e : Int) (q : Qt) : Two T R 19 20 #[tp T, .int .i64 e, q.val] #[tp R, .int .i64 e, q.val] isN := by
  intro w F1 rs last hE iv wd
  refine ⟨.int .i64 (payE rs e q), payS rs e q, last, ⟨_, rfl⟩, iv.pay e q, wd.pay e q, cP_set (pay_any hE e q (fun r hl => by obtain ⟨k, rfl, hr⟩ := look_some hl; exact ⟨(iv.oks hr).1, (iv.oks hr).2.1⟩)), fun w3 F2 hR => ?_⟩
  unfold payE payS
  cases hl : look rs e with
  | none => exact cD_bel hR (payD_none hR iv.tr.len e hl q)
  | some r =>
    obtain ⟨k, rfl, hr⟩ := look_some hl
    dsimp only
    by_cases hg : q.good
    · by_cases hf : q.le r.le
      · rw [if_pos hg, if_pos hg, if_pos hf, if_pos hf]
        exact cD_set (payD_ok hR iv k r hr q hg hf)
      · rw [if_pos hg, if_pos hg, if_neg hf, if_neg hf]
        exact cD_set (payD_full hR iv k r hr q hg hf)
    · rw [if_neg hg, if_neg hg]
      exact cD_set (payD_bad hR iv k r hr q hg)
theorem two_refund (T R : Nat) (e : Int) (q : Qt) : Two T R 21 22 #[tp T, .int .i64 e, q.val] #[tp R, .int .i64 e, q.val] isN := by
  intro w F1 rs last hE iv wd
  refine ⟨.int .i64 (refE rs e q), refS rs e q, last, ⟨_, rfl⟩, iv.refund e q, wd.refund e q, cP_set (refund_any hE e q (fun r hl => by obtain ⟨k, rfl, hr⟩ := look_some hl; exact ⟨(iv.oks hr).1, (iv.oks hr).2.1⟩)), fun w3 F2 hR => ?_⟩
  unfold refE refS
  cases hl : look rs e with
  | none => exact cD_bel hR (refundD_none hR iv.tr.len e hl q)
  | some r =>
    obtain ⟨k, rfl, hr⟩ := look_some hl
    dsimp only
    by_cases hg : q.good
    · by_cases hf : q.le r.pd
      · rw [if_pos ⟨hg, hf⟩, if_pos ⟨hg, hf⟩]
        exact cD_set (refundD_ok hR iv k r hr q hg hf)
      · rw [if_neg (fun h => hf h.2), if_neg (fun h => hf h.2)]
        exact cD_set (refundD_more hR iv k r hr q hg hf)
    · rw [if_neg (fun h => hg h.1), if_neg (fun h => hg h.1)]
      exact cD_set (refundD_bad hR iv k r hr q hg)
theorem Wd.create {rs : List (Option Er)} {last : Int} (wd : Wd rs) (e s : Int) (q : Qt) : Wd (crS rs last e s q) := by
  unfold crS
  cases hl : look rs e with
  | none => exact wd
  | some r =>
    obtain ⟨k, rfl, hr⟩ := look_some hl
    dsimp only
    split
    · exact (wd.set (show (0 : Int) ≤ 0 ∧ (0 : Int) ≤ 4294967295 from ⟨by decide, by decide⟩)).set (wd k r hr)
    · exact wd
theorem le_split {q l : Qt} : (q.plus Qt.one).le l ↔ q.le l ∧ q.e ≠ l.e := by
  unfold Qt.le Qt.plus Qt.one
  simp only
  constructor
  · rintro ⟨h1, h2, h3⟩; exact ⟨⟨by omega, by omega, by omega⟩, by omega⟩
  · rintro ⟨⟨h1, h2, h3⟩, h4⟩; exact ⟨by omega, by omega, by omega⟩
theorem two_create (T R : Nat) (e s : Int) (q : Qt) : Two T R 12 15 #[tp T, .int .i64 e, .int .i64 s, q.val] #[tp R, .int .i64 e, .int .i64 s, q.val] isNN := by
  intro w F1 rs last hE iv wd
  refine ⟨.tuple #[.int .i64 (crN rs last e s q), .int .i64 (crE rs last e s q)], crS rs last e s q, crL rs last e s q, ⟨_, _, rfl⟩, iv.crS e s q, wd.create e s q, (create_any hE iv e s q).mono (fun _ _ ⟨h1, F', h2, h3⟩ => ⟨h1, F', h2, h3⟩), fun w3 F2 hR => ?_⟩
  cases hl : look rs e with
  | none =>
    have e0 : crE rs last e s q = 90 := by unfold crE; rw [hl]
    have e1 : crN rs last e s q = -1 := by unfold crN; rw [e0]; rfl
    have e2 : crS rs last e s q = rs := by unfold crS; rw [hl]
    have e3 : crL rs last e s q = last := by unfold crL; rw [e0]; rfl
    rw [e0, e1, e2, e3]
    exact cD_bel hR (createD_none hR iv.tr.len e hl s q)
  | some r =>
    obtain ⟨k, rfl, hr⟩ := look_some hl
    have stays : ∀ c : Int, c ≠ 0 → crE rs last (k : Int) s q = c → (crN rs last (k : Int) s q = -1 ∧ crS rs last (k : Int) s q = rs ∧ crL rs last (k : Int) s q = last) := fun c hc h => by
      have h0 : ¬ crE rs last (k : Int) s q = 0 := by rw [h]; exact hc
      refine ⟨by unfold crN; rw [if_neg h0], ?_, by unfold crL; rw [if_neg h0]⟩
      unfold crS; rw [hl]; dsimp only; rw [if_neg h0]
    have one : ∀ {F2 : Nat → Prop} {w3 : World}, ¬ (q.good ∧ last < s ∧ s ≤ 4611686018427387903) → (Calls Tryz.prog 15 #[tp R, .int .i64 (k : Int), .int .i64 s, q.val] w3 fun x w' => x = .returned (.tuple #[.int .i64 (-1), .int .i64 1]) ∧ RtA R rs last w' F2 ∧ Ext F2 w3 F2 w') → Calls Tryz.prog 15 #[tp R, .int .i64 (k : Int), .int .i64 s, q.val] w3 fun x w' => x = .returned (.tuple #[.int .i64 (crN rs last (k : Int) s q), .int .i64 (crE rs last (k : Int) s q)]) ∧ ∃ F2', RtA R (crS rs last (k : Int) s q) (crL rs last (k : Int) s q) w' F2' ∧ Ext F2 w3 F2' w' := fun hn h => by
      have e0 : crE rs last (k : Int) s q = 1 := by unfold crE; rw [hl]; dsimp only; rw [if_neg hn]
      obtain ⟨e1, e2, e3⟩ := stays 1 (by decide) e0
      rw [e0, e1, e2, e3]
      exact cD_set h
    have two : ∀ {F2 : Nat → Prop} {w3 : World}, (q.good ∧ last < s ∧ s ≤ 4611686018427387903) → ¬ ((q.plus Qt.one).le r.le ∧ ff rs < 16) → (Calls Tryz.prog 15 #[tp R, .int .i64 (k : Int), .int .i64 s, q.val] w3 fun x w' => x = .returned (.tuple #[.int .i64 (-1), .int .i64 2]) ∧ RtA R rs last w' F2 ∧ Ext F2 w3 F2 w') → Calls Tryz.prog 15 #[tp R, .int .i64 (k : Int), .int .i64 s, q.val] w3 fun x w' => x = .returned (.tuple #[.int .i64 (crN rs last (k : Int) s q), .int .i64 (crE rs last (k : Int) s q)]) ∧ ∃ F2', RtA R (crS rs last (k : Int) s q) (crL rs last (k : Int) s q) w' F2' ∧ Ext F2 w3 F2' w' := fun hy hn h => by
      have e0 : crE rs last (k : Int) s q = 2 := by unfold crE; rw [hl]; dsimp only; rw [if_pos hy, if_neg hn]
      obtain ⟨e1, e2, e3⟩ := stays 2 (by decide) e0
      rw [e0, e1, e2, e3]
      exact cD_set h
    by_cases hg : q.good
    · by_cases hs : s ≤ last
      · exact one (fun h => by omega) (createD_bad2 hR iv k r hr s q hg hs)
      by_cases hm : 4611686018427387903 < s
      · exact one (fun h => by omega) (createD_bad3 hR iv k r hr s q hg (by omega) hm)
      have hy : q.good ∧ last < s ∧ s ≤ 4611686018427387903 := ⟨hg, by omega, by omega⟩
      by_cases hf : q.le r.le
      · by_cases hq : q.e = r.le.e
        · exact two hy (fun h => (le_split.1 h.1).2 hq) (createD_full2 hR iv k r hr s q hg (by omega) (by omega) hf hq)
        by_cases hfr : ff rs < 16
        · have e0 : crE rs last (k : Int) s q = 0 := by unfold crE; rw [hl]; dsimp only; rw [if_pos hy, if_pos ⟨le_split.2 ⟨hf, hq⟩, hfr⟩]
          have e1 : crN rs last (k : Int) s q = ((ff rs : Nat) : Int) := by unfold crN; rw [if_pos e0]
          have e2 : crS rs last (k : Int) s q = (rs.set (ff rs) (some (Er.new s (k : Int) q))).set k (some { r with le := r.le.less (q.plus Qt.one) }) := by unfold crS; rw [hl]; dsimp only; rw [if_pos e0]; rfl
          have e3 : crL rs last (k : Int) s q = s := by unfold crL; rw [if_pos e0]
          rw [e0, e1, e2, e3]
          exact createD_ok hR iv k r hr s q hg (by omega) (by omega) hf hq hfr
        · exact two hy (fun h => hfr h.2) (createD_full3 hR iv k r hr s q hg (by omega) (by omega) hf hq hfr)
      · exact two hy (fun h => hf (le_split.1 h.1).1) (createD_full1 hR iv k r hr s q hg (by omega) (by omega) hf)
    · exact one (fun h => hg h.1) (createD_bad1 hR iv k r hr s q hg)
end Go.Proofs.YtbocpmcodlceoaaGreat

namespace Go.Proofs.YtbocpmcodlceoaaGreat
open Go.ChangeShapes Go.WideShapes Go.ChangeAt Go.RowKit Go.Deep Go.Shelf

section
variable {w w3 : World} {T R : Nat} {F1 F2 : Nat → Prop} {rs : List (Option Er)} {last : Int} {f : FuncId} {xs : Array Value} {l : List Nat} {c : Int} {mk : Int → Value → Value}
theorem rP_none (hE : Et w F1 T rs last) (h : Calls Tryz.prog f xs w fun x w' => x = .returned (mk c (.slice none 0 0)) ∧ w' = w) : Calls Tryz.prog f xs w fun x w' => ∃ u, x = .returned (mk c u) ∧ w'.ownsRow w.heap.size 3 1 u ([] : List Nat).length (numN []) ∧ ∃ F1', Et w' F1' T rs last ∧ Ext F1 w F1' w' :=
  h.mono (fun _ _ ⟨h1, h2⟩ => ⟨_, h1, own_nil _ _, F1, by rw [h2]; exact ⟨hE, Ext.refl _ _⟩⟩)
theorem rP_bel (hE : Et w F1 T rs last) (h : Calls Tryz.prog f xs w fun x w' => ∃ v, x = .returned (mk c v) ∧ w'.ownsRow w.heap.size 3 1 v l.length (numN l) ∧ Below w.heap.size w w') : Calls Tryz.prog f xs w fun x w' => ∃ u, x = .returned (mk c u) ∧ w'.ownsRow w.heap.size 3 1 u l.length (numN l) ∧ ∃ F1', Et w' F1' T rs last ∧ Ext F1 w F1' w' :=
  h.mono (fun _ _ ⟨v, h1, h2, h3⟩ => ⟨v, h1, h2, F1, (good_et T rs last).below (show EtA T rs last w F1 from hE) h3, ext_below h3⟩)
theorem rD_none (hR : RtA R rs last w3 F2) (h : Calls Tryz.prog f xs w3 fun x w' => x = .returned (mk c (.slice none 0 0)) ∧ w' = w3) : Calls Tryz.prog f xs w3 fun x w' => ∃ u, x = .returned (mk c u) ∧ w'.ownsRow w3.heap.size 3 1 u ([] : List Nat).length (numN []) ∧ ∃ F2', RtA R rs last w' F2' ∧ Ext F2 w3 F2' w' :=
  h.mono (fun _ _ ⟨h1, h2⟩ => ⟨_, h1, own_nil _ _, F2, by rw [h2]; exact ⟨hR, Ext.refl _ _⟩⟩)
theorem rD_bel (hR : RtA R rs last w3 F2) (h : Calls Tryz.prog f xs w3 fun x w' => ∃ v, x = .returned (mk c v) ∧ w'.ownsRow w3.heap.size 3 1 v l.length (numN l) ∧ Below w3.heap.size w3 w') : Calls Tryz.prog f xs w3 fun x w' => ∃ u, x = .returned (mk c u) ∧ w'.ownsRow w3.heap.size 3 1 u l.length (numN l) ∧ ∃ F2', RtA R rs last w' F2' ∧ Ext F2 w3 F2' w' :=
  h.mono (fun _ _ ⟨v, h1, h2, h3⟩ => ⟨v, h1, h2, F2, (good_rt R rs last).below hR h3, ext_below h3⟩)
end
theorem Wd.destroy {rs : List (Option Er)} (wd : Wd rs) (e : Int) : Wd (dsS rs e) := by
  unfold dsS
  cases hl : look rs e with
  | none => exact wd
  | some r =>
    dsimp only
    split
    · exact wd
    · refine Wd.drops _ ?_
      unfold dsP
      cases hp : look rs r.pa with
      | none => exact wd
      | some rp =>
        obtain ⟨p, hpe, hp2⟩ := look_some hp
        exact wd.set (wd p rp hp2)
theorem fd_ex (rs : List (Option Er)) (s : Int) : ∃ z, Fd rs s z := by
  by_cases h : ∃ (k : Nat) (r : Er), rs[k]? = some (some r) ∧ r.se = s
  · obtain ⟨k, r, h1, h2⟩ := h
    exact ⟨(k : Int), .inr ⟨k, r, rfl, h1, h2⟩⟩
  · exact ⟨-1, .inl ⟨rfl, fun k r hr e => h ⟨k, r, hr, e⟩⟩⟩
theorem lvL_len {rs : List (Option Er)} (hl : rs.length = 16) : (lvL rs).length ≤ 4096 := by
  unfold lvL
  rw [List.length_map, prs_len]
  have := List.countP_le_length (p := Option.isSome) (l := rs)
  omega
theorem two_destroy (T R : Nat) (e : Int) : TwoR T R 16 17 #[tp T, .int .i64 e] #[tp R, .int .i64 e] mkT := by
  intro w F1 rs last hE iv wd
  have hlen : (dsL rs e).length ≤ 4096 := by
    unfold dsL
    split
    · exact wk_len' iv.tr 17 _
    · simp
  refine ⟨dsL rs e, dsE rs e, dsS rs e, last, hlen, iv.dsS e, wd.destroy e, (destroy_any hE iv e).mono (fun _ _ ⟨v, h1, h2, h3, h4⟩ => ⟨v, h1, h3, F1, h2, h4, fun _ h => .inl h⟩), fun w3 F2 hR => ?_⟩
  cases hl : look rs e with
  | none =>
    have e0 : dsE rs e = 90 := by unfold dsE; rw [hl]
    have e1 : dsL rs e = [] := by unfold dsL; rw [e0]; rfl
    have e2 : dsS rs e = rs := by unfold dsS; rw [hl]
    rw [e0, e1, e2]
    exact rD_none hR (destroyD_none hR iv.tr.len e hl)
  | some r =>
    obtain ⟨k, rfl, hr⟩ := look_some hl
    by_cases hk : k = 0
    · subst hk
      have e0 : dsE rs ((0 : Nat) : Int) = 92 := by unfold dsE; rw [hl]; rfl
      have e1 : dsL rs ((0 : Nat) : Int) = [] := by unfold dsL; rw [e0]; rfl
      have e2 : dsS rs ((0 : Nat) : Int) = rs := by unfold dsS; rw [hl]; rfl
      rw [e0, e1, e2]
      exact rD_none hR (destroyD_zero hR iv.tr.len r hr)
    · have hk0 : ¬ (k : Int) = 0 := by omega
      have e0 : dsE rs (k : Int) = 0 := by unfold dsE; rw [hl]; dsimp only; rw [if_neg hk0]
      have e1 : dsL rs (k : Int) = wk rs 17 k := by unfold dsL; rw [if_pos e0]; rfl
      have e2 : dsS rs (k : Int) = drops (dsP rs r) (wk rs 17 k) := by unfold dsS; rw [hl]; dsimp only; rw [if_neg hk0]; rfl
      rw [e0, e1, e2]
      exact (destroyD_ok hR iv k r hr hk).mono (fun _ _ ⟨v, F', h1, h2, h3, h4⟩ => ⟨v, h1, h4, F', h2, h3⟩)
theorem two_info (T R : Nat) (e : Int) : Two T R 13 35 #[tp T, .int .i64 e] #[tp R, .int .i64 e] isE := by
  intro w F1 rs last hE iv wd
  cases hl : look rs e with
  | none => exact ⟨.tuple #[.agg Er.nil.head.toArray, .int .i64 90], rs, last, ⟨_, _, rfl⟩, iv, wd, cP_bel hE (infoNone_any hE e hl), fun w3 F2 hR => cD_bel hR (infoD_none hR iv.tr.len e hl)⟩
  | some r =>
    obtain ⟨k, rfl, hr⟩ := look_some hl
    exact ⟨.tuple #[.agg r.told.head.toArray, .int .i64 0], rs, last, ⟨_, _, rfl⟩, iv, wd, cP_bel hE (info_any w F1 T rs last hE k r hr), fun w3 F2 hR => cD_bel hR (infoD_some hR iv k r hr)⟩
theorem two_children (T R : Nat) (e : Int) : TwoR T R 36 37 #[tp T, .int .i64 e] #[tp R, .int .i64 e] mkT := by
  intro w F1 rs last hE iv wd
  cases hl : look rs e with
  | none => exact ⟨[], 90, rs, last, by simp, iv, wd, rP_none hE (childrenTNone_any hE e hl), fun w3 F2 hR => rD_none hR (childrenD_none hR iv.tr.len e hl)⟩
  | some r =>
    obtain ⟨k, rfl, hr⟩ := look_some hl
    exact ⟨kids rs (k : Int), 0, rs, last, kids_len iv.tr _, iv, wd, rP_bel hE (childrenT_any hE iv.tr.dis k ⟨r, hr⟩), fun w3 F2 hR => rD_bel hR (childrenD_some hR iv.tr k r hr)⟩
theorem two_tree (T R : Nat) (e : Int) : TwoR T R 38 39 #[tp T, .int .i64 e] #[tp R, .int .i64 e] mkT := by
  intro w F1 rs last hE iv wd
  cases hl : look rs e with
  | none => exact ⟨[], 90, rs, last, by simp, iv, wd, rP_none hE (treeTNone_any hE e hl), fun w3 F2 hR => rD_none hR (treeD_none hR iv.tr.len e hl)⟩
  | some r =>
    obtain ⟨k, rfl, hr⟩ := look_some hl
    exact ⟨wk rs 17 k, 0, rs, last, wk_len' iv.tr 17 k, iv, wd, rP_bel hE (treeT_any hE iv k ⟨r, hr⟩), fun w3 F2 hR => rD_bel hR (treeD_some hR iv.tr k r hr)⟩
theorem two_inside (T R : Nat) (z e : Int) : Two T R 40 41 #[tp T, .int .i64 z, .int .i64 e] #[tp R, .int .i64 z, .int .i64 e] isB := by
  intro w F1 rs last hE iv wd
  exact ⟨.bool (decide (z ∈ ln rs e)), rs, last, ⟨_, rfl⟩, iv, wd, cP_bel hE (inside_any hE iv.tr z e), fun w3 F2 hR => cD_same hR (insideD_any hR iv.tr z e)⟩
theorem two_runs (T R : Nat) (e : Int) : Two T R 42 43 #[tp T, .int .i64 e] #[tp R, .int .i64 e] isB := by
  intro w F1 rs last hE iv wd
  exact ⟨.bool (rn rs e), rs, last, ⟨_, rfl⟩, iv, wd, cP_bel hE (runs_all hE iv.tr e), fun w3 F2 hR => cD_same hR (runsD_any hR iv.tr e)⟩
theorem two_find (T R : Nat) (s : Int) : Two T R 44 45 #[tp T, .int .i64 s] #[tp R, .int .i64 s] isN := by
  intro w F1 rs last hE iv wd
  obtain ⟨z, hz⟩ := fd_ex rs s
  refine ⟨.int .i64 z, rs, last, ⟨_, rfl⟩, iv, wd, cP_bel hE ((find_any hE s).mono ?_), fun w3 F2 hR => cD_same hR ?_⟩
  · rintro x w' ⟨z', rfl, h1, h2⟩
    exact ⟨by rw [fd_one iv.tr h1 hz], h2⟩
  · obtain ⟨v, K, h, ha, _⟩ := hR
    refine (findD_any h ha iv.tr.len s).mono ?_
    rintro x w' ⟨z', rfl, h1, h2⟩
    exact ⟨by rw [fd_one iv.tr h1 hz], h2⟩
theorem two_live (T R : Nat)  : TwoR T R 46 47 #[tp T] #[tp R] mkU := by
  intro w F1 rs last hE iv wd
  exact ⟨lvL rs, 0, rs, last, lvL_len iv.tr.len, iv, wd, rP_bel hE (live_any hE), fun w3 F2 hR => rD_bel hR (liveD_any hR iv.tr.len)⟩
end Go.Proofs.YtbocpmcodlceoaaGreat
