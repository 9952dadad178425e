import Derived.Test.YtionncfpcbjchaaDoorFD
import Derived.Test.YtionncfpcbjchaaDoorH0
import Derived.DeepKeys
namespace Go.Proofs.YtionncfpcbjchaaDoor
open Go.ChangeShapes Go.WideShapes Go.ChangeAt Go.RowKit Go.Deep
/-- two values compared -/
def De (d : Nat) (t : TypeId) (v v' : Value) (b : Bool) : Prop := ∀ w, (Op.equalIn d t v v').run Tryd.prog w = .ok b w
theorem de_int {t : TypeId} {k' : IntKind} (h : Tryd.prog.underlying t = some (.int k')) (d : Nat) (k : IntKind) (z z' : Int) : De (d + 1) t (.int k z) (.int k z') (z == z') := fun w => run_equalIn_int w d t k k' z z' h
theorem de_bool {t : TypeId} (h : Tryd.prog.underlying t = some .bool) (d : Nat) (b b' : Bool) : De (d + 1) t (.bool b) (.bool b') (b == b') := fun w => run_equalIn_bool' w d t b b' h
theorem part_cell {t : TypeId} {d : TypeDesc} (hu : Tryd.prog.underlying t = some d) (hd : (match d with | .struct _ | .array _ _ => true | _ => false) = false) {xs : Array Value} {off : Nat} {v : Value} (hx : xs[off]? = some v) (w : World) : (part t xs off).run Tryd.prog w = .ok v w := by
  have hagg : (isAgg t).run Tryd.prog w = .ok false w := by
    unfold isAgg
    rw [Sem.run_bind, run_underlying hu w]
    cases d <;> simp_all
  simp [part, Sem.run_bind, hagg, hx]
theorem part_agg {t : TypeId} {d : TypeDesc} (hu : Tryd.prog.underlying t = some d) (hd : (match d with | .struct _ | .array _ _ => true | _ => false) = true) {n : Nat} (hn : (Tryd.prog.info? t).map (·.size) = some n) {xs ys : Array Value} {off : Nat} (hx : xs.extract off (off + n) = ys) (w : World) : (part t xs off).run Tryd.prog w = .ok (.agg ys) w := by
  have hagg : (isAgg t).run Tryd.prog w = .ok true w := by
    unfold isAgg
    rw [Sem.run_bind, run_underlying hu w]
    cases d <;> simp_all
  cases hq : Tryd.prog.info? t with
  | none => simp [hq] at hn
  | some i =>
    have hs : i.size = n := by simpa [hq] using hn
    simp [part, Sem.run_bind, hagg, sizeOf, typeInfo, hq, hs, hx]
/-- what stands at a place of two rows of cells, compared -/
def Pd (d : Nat) (xs ys : Array Value) (t : TypeId) (off : Nat) (b : Bool) : Prop := ∃ v v', (∀ w, (part t xs off).run Tryd.prog w = .ok v w) ∧ (∀ w, (part t ys off).run Tryd.prog w = .ok v' w) ∧ De d t v v' b
theorem de_fields (d : Nat) (xs ys : Array Value) : ∀ (fs : List Field) (bs : List Bool), fs.length = bs.length → (∀ q ∈ fs.zip bs, (q.1.name != "_") = true ∧ Pd d xs ys q.1.type q.1.offset q.2) → ∀ w, (Op.eqFields d xs ys fs).run Tryd.prog w = .ok (bs.all id) w
  | [], [], _, _, w => by simp [Op.eqFields]
  | f :: fs, b :: bs, hl, h, w => by
    obtain ⟨hn, v, v', h1, h2, h3⟩ := h (f, b) (by simp)
    have h4 := de_fields d xs ys fs bs (by simpa using hl) (fun q hq => h q (by rw [List.zip_cons_cons]; exact List.mem_cons_of_mem _ hq)) w
    have hn' : ¬ f.name = "_" := by simpa using hn
    cases b
    · simp [Op.eqFields, hn', Sem.run_bind, h1, h2, h3 w]
    · simp [Op.eqFields, hn', Sem.run_bind, h1, h2, h3 w, h4]
  | [], _ :: _, hl, _, _ => by simp at hl
  | _ :: _, [], hl, _, _ => by simp at hl
theorem de_struct {t : TypeId} (ht : Tryd.prog.underlying t = some (.struct (Tryd.prog.fieldsOf t))) (hp : Tryd.prog.stoodInHeld t = false) {ps : List (Bool × TypeId × Nat)} (hfs : (Tryd.prog.fieldsOf t).toList.map (fun f => (f.name != "_", f.type, f.offset)) = ps) (d : Nat) (xs ys : Array Value) (bs : List Bool) (hl : ps.length = bs.length) (h : ∀ q ∈ ps.zip bs, q.1.1 = true ∧ Pd d xs ys q.1.2.1 q.1.2.2 q.2) : De (d + 1) t (.agg xs) (.agg ys) (bs.all id) := fun w => by
  rw [run_equalIn_struct w d t xs ys ht hp]
  refine de_fields d xs ys _ bs (by rw [← hl, ← hfs]; simp) (fun q hq => ?_) w
  have := h ((q.1.name != "_", q.1.type, q.1.offset), q.2) (by
    rw [← hfs, List.zip_map_left]
    exact List.mem_map.2 ⟨q, hq, rfl⟩)
  exact this
theorem de_items (d : Nat) (xs ys : Array Value) (e : TypeId) (c : Nat) (f : Nat → Bool) : ∀ is : List Nat, (∀ i ∈ is, Pd d xs ys e (i * c) (f i)) → ∀ w, (Op.eqItems d e c xs ys is).run Tryd.prog w = .ok (is.all f) w
  | [], _, w => by simp [Op.eqItems]
  | i :: is, h, w => by
    obtain ⟨v, v', h1, h2, h3⟩ := h i List.mem_cons_self
    have h4 := de_items d xs ys e c f is (fun g hg => h g (List.mem_cons_of_mem _ hg)) w
    cases hb : f i
    · rw [hb] at h3
      simp [Op.eqItems, Sem.run_bind, h1, h2, h3 w, hb]
    · rw [hb] at h3
      simp [Op.eqItems, Sem.run_bind, h1, h2, h3 w, hb, h4]
theorem de_array {t e : TypeId} {n c : Nat} (hu : Tryd.prog.underlying t = some (.array n e)) (hi : (Tryd.prog.info? e).map (·.size) = some c) (hc : Tryd.prog.cellsOf e = c) (d : Nat) (xs ys : Array Value) (f : Nat → Bool) (h : ∀ i, i < n → Pd d xs ys e (i * c) (f i)) : De (d + 1) t (.agg xs) (.agg ys) ((List.range n).all f) := fun w => by
  cases hq : Tryd.prog.info? e with
  | none => simp [hq] at hi
  | some i =>
    rw [run_equalIn_array w d xs ys hu hq, hc]
    exact de_items d xs ys e c f _ (fun i hi => h i (List.mem_range.1 hi)) w
theorem pd_cell {t : TypeId} {k' : IntKind} (hu : Tryd.prog.underlying t = some (.int k')) (d : Nat) {xs ys : Array Value} {off : Nat} {k : IntKind} {z z' : Int} (hx : xs[off]? = some (.int k z)) (hy : ys[off]? = some (.int k z')) : Pd (d + 1) xs ys t off (z == z') := ⟨_, _, part_cell hu rfl hx, part_cell hu rfl hy, de_int hu d k z z'⟩
theorem pd_bool {t : TypeId} (hu : Tryd.prog.underlying t = some .bool) (d : Nat) {xs ys : Array Value} {off : Nat} {b b' : Bool} (hx : xs[off]? = some (.bool b)) (hy : ys[off]? = some (.bool b')) : Pd (d + 1) xs ys t off (b == b') := ⟨_, _, part_cell hu rfl hx, part_cell hu rfl hy, de_bool hu d b b'⟩
/-- two arrays of words -/
theorem de_words {t : TypeId} {n : Nat} (hu : Tryd.prog.underlying t = some (.array n 32)) (d : Nat) (W W' : List Nat) (h : W.length = n) (h' : W'.length = n) : ∃ b, De (d + 2) t (.agg (rgL W).toArray) (.agg (rgL W').toArray) b ∧ (b = true ↔ W = W') := by
  refine ⟨_, de_array (c := 1) hu (by kernel_rfl) (by kernel_rfl) (d + 1) _ _ (fun i => ((W.getD i 0 : Nat) : Int) == ((W'.getD i 0 : Nat) : Int)) (fun i hi => ?_), ?_⟩
  · have e1 : W[i]? = some (W.getD i 0) := by simp [List.getD_eq_getElem?_getD, List.getElem?_eq_getElem (show i < W.length by omega)]
    have e2 : W'[i]? = some (W'.getD i 0) := by simp [List.getD_eq_getElem?_getD, List.getElem?_eq_getElem (show i < W'.length by omega)]
    exact pd_cell Tryd.underlying32 d (by simpa using rgL_get e1) (by simpa using rgL_get e2)
  · rw [List.all_eq_true]
    constructor
    · intro hall
      apply List.ext_getElem?
      intro i
      by_cases hi : i < n
      · have := hall i (List.mem_range.2 hi)
        simp only [beq_iff_eq] at this
        rw [List.getElem?_eq_getElem (show i < W.length by omega), List.getElem?_eq_getElem (show i < W'.length by omega)]
        rw [List.getD_eq_getElem?_getD, List.getD_eq_getElem?_getD, List.getElem?_eq_getElem (show i < W.length by omega), List.getElem?_eq_getElem (show i < W'.length by omega)] at this
        simp only [Option.getD_some] at this
        congr 1
        omega
      · rw [List.getElem?_eq_none (by omega), List.getElem?_eq_none (by omega)]
    · rintro rfl i _
      simp
theorem ext_mid (a m c : List Value) (o n : Nat) (ho : a.length = o) (hn : m.length = n) : (a ++ (m ++ c)).toArray.extract o (o + n) = m.toArray := by
  subst ho hn
  rw [List.extract_toArray]
  simp
theorem de_regs (d : Nat) (W W' : List Nat) (p p' : Nat) (h : W.length = 8) (h' : W'.length = 8) : ∃ b, De (d + 3) 35 (.agg (rgL (W ++ [p])).toArray) (.agg (rgL (W' ++ [p'])).toArray) b ∧ (b = true ↔ W ++ [p] = W' ++ [p']) := by
  obtain ⟨b1, h1, e1⟩ := de_words Tryd.underlying33 d W W' h h'
  have r : ∀ (W : List Nat) (p : Nat), rgL (W ++ [p]) = [] ++ (rgL W ++ [.int .u32 (p : Nat)]) := fun W p => by simp [rgL]
  have l : ∀ W : List Nat, (rgL W).length = W.length := fun W => by simp [rgL]
  refine ⟨_, de_struct (ps := [(true, 33, 0), (true, 32, 8)]) (by kernel_rfl) (by kernel_rfl) (by kernel_rfl) (d + 2) _ _ [b1, (p : Int) == (p' : Int)] rfl (fun q hq => ?_), ?_⟩
  · simp only [List.zip_cons_cons, List.zip_nil_right, List.mem_cons, List.not_mem_nil, or_false] at hq
    rcases hq with rfl | rfl
    · refine ⟨rfl, _, _, part_agg Tryd.underlying33 rfl (n := 8) (by kernel_rfl) (by rw [r W p]; exact ext_mid [] (rgL W) [.int .u32 (p : Nat)] 0 8 rfl (by rw [l, h])), part_agg Tryd.underlying33 rfl (n := 8) (by kernel_rfl) (by rw [r W' p']; exact ext_mid [] (rgL W') [.int .u32 (p' : Nat)] 0 8 rfl (by rw [l, h'])), h1⟩
    · refine ⟨rfl, pd_cell Tryd.underlying32 (d + 1) (k := .u32) ?_ ?_⟩
      · have := rgL_get (W := W ++ [p]) (i := 8) (z := p) (by rw [List.getElem?_append_right (by omega)]; simp [h])
        simpa using this
      · have := rgL_get (W := W' ++ [p']) (i := 8) (z := p') (by rw [List.getElem?_append_right (by omega)]; simp [h'])
        simpa using this
  · simp only [List.all_cons, List.all_nil, id, Bool.and_true, Bool.and_eq_true, e1, beq_iff_eq]
    constructor
    · rintro ⟨rfl, hp⟩
      have : p = p' := by omega
      rw [this]
    · intro e
      obtain ⟨h3, h4⟩ := List.append_inj e (by omega)
      simp at h4
      exact ⟨h3, by omega⟩
theorem de_three {t : TypeId} (h1 : Tryd.prog.underlying t = some (.struct (Tryd.prog.fieldsOf t))) (h2 : Tryd.prog.stoodInHeld t = false) (h3 : (Tryd.prog.fieldsOf t).toList.map (fun f => (f.name != "_", f.type, f.offset)) = [(true, 3, 0), (true, 3, 1), (true, 3, 2)]) (d : Nat) (a b c a' b' c' : Int) : De (d + 2) t (.agg #[.int .i64 a, .int .i64 b, .int .i64 c]) (.agg #[.int .i64 a', .int .i64 b', .int .i64 c']) ([a == a', b == b', c == c'].all id) := by
  refine de_struct h1 h2 h3 (d + 1) _ _ [a == a', b == b', c == c'] rfl (fun q hq => ?_)
  simp only [List.zip_cons_cons, List.zip_nil_right, List.mem_cons, List.not_mem_nil, or_false] at hq
  rcases hq with rfl | rfl | rfl <;> exact ⟨rfl, pd_cell Tryd.underlying3 d rfl rfl⟩
theorem de_two {t : TypeId} (h1 : Tryd.prog.underlying t = some (.struct (Tryd.prog.fieldsOf t))) (h2 : Tryd.prog.stoodInHeld t = false) (h3 : (Tryd.prog.fieldsOf t).toList.map (fun f => (f.name != "_", f.type, f.offset)) = [(true, 3, 0), (true, 3, 1)]) (d : Nat) (a b a' b' : Int) : De (d + 2) t (.agg #[.int .i64 a, .int .i64 b]) (.agg #[.int .i64 a', .int .i64 b']) ([a == a', b == b'].all id) := by
  refine de_struct h1 h2 h3 (d + 1) _ _ [a == a', b == b'] rfl (fun q hq => ?_)
  simp only [List.zip_cons_cons, List.zip_nil_right, List.mem_cons, List.not_mem_nil, or_false] at hq
  rcases hq with rfl | rfl <;> exact ⟨rfl, pd_cell Tryd.underlying3 d rfl rfl⟩
theorem de_env (d : Nat) (e f : EnG) (he : e.Ok) (hf : f.Ok) : ∃ b, De (d + 4) 39 (.agg e.cells.toArray) (.agg f.cells.toArray) b ∧ (b = true ↔ e = f) := by
  obtain ⟨b1, h1, e1⟩ := de_regs d e.W f.W e.pc f.pc he.n hf.n
  have h2 := de_three (t := 37) (by kernel_rfl) (by kernel_rfl) (by kernel_rfl) (d + 1) e.q1 e.q2 e.q3 f.q1 f.q2 f.q3
  have l9 : ∀ e : EnG, e.Ok → (rgL (e.W ++ [e.pc])).length = 9 := fun e h => by rw [rgL_len, List.length_append, h.n]; rfl
  have r : ∀ e : EnG, e.cells = ([.int .i64 e.p, .int .i64 e.s, .int .i64 e.c, .int .i64 e.b, .bool e.fz] ++ rgL (e.W ++ [e.pc])) ++ ([.int .i64 e.q1, .int .i64 e.q2, .int .i64 e.q3] ++ []) := fun e => by simp [EnG.cells]
  refine ⟨_, de_struct (ps := [(true, 3, 0), (true, 3, 1), (true, 3, 2), (true, 3, 3), (true, 4, 4), (true, 35, 5), (true, 37, 14)]) (by kernel_rfl) (by kernel_rfl) (by kernel_rfl) (d + 3) _ _ [e.p == f.p, e.s == f.s, e.c == f.c, e.b == f.b, e.fz == f.fz, b1, [e.q1 == f.q1, e.q2 == f.q2, e.q3 == f.q3].all id] rfl (fun q hq => ?_), ?_⟩
  · simp only [List.zip_cons_cons, List.zip_nil_right, List.mem_cons, List.not_mem_nil, or_false] at hq
    rcases hq with rfl | rfl | rfl | rfl | rfl | rfl | rfl
    · exact ⟨rfl, pd_cell Tryd.underlying3 (d + 2) rfl rfl⟩
    · exact ⟨rfl, pd_cell Tryd.underlying3 (d + 2) rfl rfl⟩
    · exact ⟨rfl, pd_cell Tryd.underlying3 (d + 2) rfl rfl⟩
    · exact ⟨rfl, pd_cell Tryd.underlying3 (d + 2) rfl rfl⟩
    · exact ⟨rfl, pd_bool Tryd.underlying4 (d + 2) rfl rfl⟩
    · exact ⟨rfl, _, _, part_agg Tryd.underlying35 rfl (n := 9) (by kernel_rfl) (ext_mid _ _ _ 5 9 rfl (l9 e he)), part_agg Tryd.underlying35 rfl (n := 9) (by kernel_rfl) (ext_mid _ _ _ 5 9 rfl (l9 f hf)), h1⟩
    · exact ⟨rfl, _, _, part_agg Tryd.underlying37 rfl (n := 3) (by kernel_rfl) (by rw [r e]; exact ext_mid _ _ _ 14 3 (by rw [List.length_append, l9 e he]; rfl) rfl), part_agg Tryd.underlying37 rfl (n := 3) (by kernel_rfl) (by rw [r f]; exact ext_mid _ _ _ 14 3 (by rw [List.length_append, l9 f hf]; rfl) rfl), h2⟩
  · simp only [List.all_cons, List.all_nil, id, Bool.and_true, Bool.and_eq_true, e1, beq_iff_eq]
    obtain ⟨p, s, c, b, z, W, pc, q1, q2, q3⟩ := e
    obtain ⟨p', s', c', b', z', W', pc', q1', q2', q3'⟩ := f
    constructor
    · rintro ⟨rfl, rfl, rfl, rfl, rfl, hw, rfl, rfl, rfl⟩
      obtain ⟨h3, h4⟩ := List.append_inj hw (by have := he.n; have := hf.n; simp only at *; omega)
      simp at h4
      simp only at h3
      subst h3 h4
      rfl
    · intro h; cases h; simp
theorem de_cap (d : Nat) (e f : CaG) : ∃ b, De (d + 3) 43 (.agg e.cells.toArray) (.agg f.cells.toArray) b ∧ (b = true ↔ e = f) := by
  have h2 := de_two (t := 41) (by kernel_rfl) (by kernel_rfl) (by kernel_rfl) d e.fe e.fs f.fe f.fs
  refine ⟨_, de_struct (ps := [(true, 3, 0), (true, 3, 1), (true, 3, 2), (true, 3, 3), (true, 4, 4), (true, 3, 5), (true, 41, 6)]) (by kernel_rfl) (by kernel_rfl) (by kernel_rfl) (d + 2) _ _ [e.e == f.e, e.s == f.s, e.k == f.k, e.r == f.r, e.inn == f.inn, e.o == f.o, [e.fe == f.fe, e.fs == f.fs].all id] rfl (fun q hq => ?_), ?_⟩
  · simp only [List.zip_cons_cons, List.zip_nil_right, List.mem_cons, List.not_mem_nil, or_false] at hq
    rcases hq with rfl | rfl | rfl | rfl | rfl | rfl | rfl
    · exact ⟨rfl, pd_cell Tryd.underlying3 (d + 1) rfl rfl⟩
    · exact ⟨rfl, pd_cell Tryd.underlying3 (d + 1) rfl rfl⟩
    · exact ⟨rfl, pd_cell Tryd.underlying3 (d + 1) rfl rfl⟩
    · exact ⟨rfl, pd_cell Tryd.underlying3 (d + 1) rfl rfl⟩
    · exact ⟨rfl, pd_bool Tryd.underlying4 (d + 1) rfl rfl⟩
    · exact ⟨rfl, pd_cell Tryd.underlying3 (d + 1) rfl rfl⟩
    · exact ⟨rfl, _, _, part_agg Tryd.underlying41 rfl (n := 2) (by kernel_rfl) (by simp [CaG.cells]), part_agg Tryd.underlying41 rfl (n := 2) (by kernel_rfl) (by simp [CaG.cells]), h2⟩
  · simp only [List.all_cons, List.all_nil, id, Bool.and_true, Bool.and_eq_true, beq_iff_eq]
    obtain ⟨a1, a2, a3, a4, a5, a6, a7, a8⟩ := e
    obtain ⟨b1, b2, b3, b4, b5, b6, b7, b8⟩ := f
    constructor
    · rintro ⟨rfl, rfl, rfl, rfl, rfl, rfl, rfl, rfl⟩; rfl
    · intro h; cases h; simp
theorem de_map (d : Nat) (e f : MaG) : ∃ b, De (d + 2) 45 (.agg e.cells.toArray) (.agg f.cells.toArray) b ∧ (b = true ↔ e = f) := by
  refine ⟨_, de_struct (ps := [(true, 3, 0), (true, 3, 1), (true, 3, 2), (true, 4, 3)]) (by kernel_rfl) (by kernel_rfl) (by kernel_rfl) (d + 1) _ _ [e.e == f.e, e.v == f.v, e.s == f.s, e.wr == f.wr] rfl (fun q hq => ?_), ?_⟩
  · simp only [List.zip_cons_cons, List.zip_nil_right, List.mem_cons, List.not_mem_nil, or_false] at hq
    rcases hq with rfl | rfl | rfl | rfl
    · exact ⟨rfl, pd_cell Tryd.underlying3 d rfl rfl⟩
    · exact ⟨rfl, pd_cell Tryd.underlying3 d rfl rfl⟩
    · exact ⟨rfl, pd_cell Tryd.underlying3 d rfl rfl⟩
    · exact ⟨rfl, pd_bool Tryd.underlying4 d rfl rfl⟩
  · simp only [List.all_cons, List.all_nil, id, Bool.and_true, Bool.and_eq_true, beq_iff_eq]
    obtain ⟨a1, a2, a3, a4⟩ := e
    obtain ⟨b1, b2, b3, b4⟩ := f
    constructor
    · rintro ⟨rfl, rfl, rfl, rfl⟩; rfl
    · intro h; cases h; simp
theorem de_out (d : Nat) (e f : OuG) : ∃ b, De (d + 2) 49 (.agg e.cells.toArray) (.agg f.cells.toArray) b ∧ (b = true ↔ e = f) := by
  refine ⟨_, de_two (t := 49) (by kernel_rfl) (by kernel_rfl) (by kernel_rfl) d e.k e.s f.k f.s, ?_⟩
  simp only [List.all_cons, List.all_nil, id, Bool.and_true, Bool.and_eq_true, beq_iff_eq]
  obtain ⟨a1, a2⟩ := e
  obtain ⟨b1, b2⟩ := f
  constructor
  · rintro ⟨rfl, rfl⟩; rfl
  · intro h; cases h; simp
theorem de_page (d : Nat) (W W' : List Nat) (h : PgOk W) (h' : PgOk W') : ∃ b, De (d + 2) 47 (.agg (pgL W).toArray) (.agg (pgL W').toArray) b ∧ (b = true ↔ W = W') := de_words Tryd.underlying47 d W W' h.1 h'.1
/-- '!=' of two structs or arrays, the operation's run -/
theorem run_neqD {t t' : TypeId} {xs ys : Array Value} {b : Bool} (hde : De 10000 t (.agg xs) (.agg ys) b) (hm : Tryd.prog.eqGuardType Tryd.prog.depth t = false) {op : Oper} {a : Act} {w : World} (x y : Operand) (ho : op.op = .binOp .neq t x y t') (hx : a.eval x = .agg xs) (hy : a.eval y = .agg ys) : (execOp a.eval op).run Tryd.prog w = .ok (.value (.bool (!b))) w := by
  unfold execOp
  simp only [ho, hx, hy, Sem.run_bind, run_eqGuard_agg w .neq t x y xs ys hm, run_neq_struct, hde w, Result.andThen_ok, Sem.run_pure]
end Go.Proofs.YtionncfpcbjchaaDoor
