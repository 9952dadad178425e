import Derived.Test.YtionncfpcbjchaaDoorF7
namespace Go.Proofs.YtionncfpcbjchaaDoor
open Go.RowKit
/-- an environment of a forest -/
structure EnG where
  p : Int
  s : Int
  c : Int
  b : Int
  fz : Bool
  W : List Nat
  pc : Nat
  q1 : Int
  q2 : Int
  q3 : Int
def EnG.cells (e : EnG) : List Value := [.int .i64 e.p, .int .i64 e.s, .int .i64 e.c, .int .i64 e.b, .bool e.fz] ++ (rgL (e.W ++ [e.pc]) ++ [.int .i64 e.q1, .int .i64 e.q2, .int .i64 e.q3])
structure EnG.Ok (e : EnG) : Prop where
  n : e.W.length = 8
  w : ∀ n ∈ e.W ++ [e.pc], n < 4294967296
  p : I64 e.p
  s : I64 e.s
  c : I64 e.c
  b : I64 e.b
  q1 : I64 e.q1
  q2 : I64 e.q2
  q3 : I64 e.q3
theorem rgL_len (W : List Nat) : (rgL W).length = W.length := by simp [rgL]
theorem EnG.len {e : EnG} (h : e.Ok) : e.cells.length = 17 := by
  have := h.n
  simp [EnG.cells, rgL_len, this]
theorem EnG.at5 {e : EnG} {j : Nat} {v : Value} (hv : (rgL (e.W ++ [e.pc]))[j]? = some v) : e.cells[5 + j]? = some v := by
  unfold EnG.cells
  rw [List.getElem?_append_right (by simp), List.getElem?_append_left]
  · simpa using hv
  · have := (List.getElem?_eq_some_iff.1 hv).1
    simp
    omega
theorem EnG.at14 {e : EnG} (h : e.Ok) {j : Nat} {v : Value} (hv : [Value.int .i64 e.q1, .int .i64 e.q2, .int .i64 e.q3][j]? = some v) : e.cells[14 + j]? = some v := by
  unfold EnG.cells
  have h9 : (rgL (e.W ++ [e.pc])).length = 9 := by rw [rgL_len]; simp [h.n]
  rw [List.getElem?_append_right (by simp; omega), List.getElem?_append_right (by rw [h9]; simp; omega), h9]
  simp only [List.length_cons, List.length_nil]
  rw [show 14 + j - (0 + 1 + 1 + 1 + 1 + 1) - 9 = j by omega]
  exact hv
/-- a capability of a forest -/
structure CaG where
  e : Int
  s : Int
  k : Int
  r : Int
  inn : Bool
  o : Int
  fe : Int
  fs : Int
def CaG.cells (c : CaG) : List Value := [.int .i64 c.e, .int .i64 c.s, .int .i64 c.k, .int .i64 c.r, .bool c.inn, .int .i64 c.o, .int .i64 c.fe, .int .i64 c.fs]
structure CaG.Ok (c : CaG) : Prop where
  e : I64 c.e
  s : I64 c.s
  k : I64 c.k
  r : I64 c.r
  o : I64 c.o
  fe : I64 c.fe
  fs : I64 c.fs
structure MaG where
  e : Int
  v : Int
  s : Int
  wr : Bool
def MaG.cells (m : MaG) : List Value := [.int .i64 m.e, .int .i64 m.v, .int .i64 m.s, .bool m.wr]
structure MaG.Ok (m : MaG) : Prop where
  e : I64 m.e
  v : I64 m.v
  s : I64 m.s
structure OuG where
  k : Int
  s : Int
def OuG.cells (o : OuG) : List Value := [.int .i64 o.k, .int .i64 o.s]
structure OuG.Ok (o : OuG) : Prop where
  k : I64 o.k
  s : I64 o.s
def PgOk (W : List Nat) : Prop := W.length = 32 ∧ ∀ n ∈ W, n < 4294967296
def envN (k : Nat) (e : EnG) : List Int := [(k : Int), e.p, e.s, e.c, e.b, fl e.fz] ++ iN (e.W ++ [e.pc]) ++ [e.q1, e.q2, e.q3]
def envT (k : Nat) (e : EnG) : Tx := [101, 110, 118] ++ lst (envN k e) ++ [10]
def whr (b : Bool) : Tx := if b then [105, 110] else [111, 117, 116]
def capT (c : CaG) : Tx := [99, 97, 112] ++ lst [c.e, c.s, c.k, c.r] ++ 32 :: whr c.inn ++ lst [c.o, c.fe, c.fs] ++ [10]
def mapT (m : MaG) : Tx := [109, 97, 112] ++ lst [m.e, m.v, m.s, fl m.wr] ++ [10]
def pageT (k : Nat) (W : List Nat) : Tx := [112, 97, 103, 101] ++ lst [(k : Int)] ++ 32 :: hx (bys W) ++ [10]
def outT (k : Nat) (o : OuG) : Tx := [111, 117, 116] ++ lst [(k : Int), o.k, o.s] ++ [10]
def upT (f : Nat → Tx) (n : Nat) : Tx := (List.range n).flatMap f
theorem upT_succ (f : Nat → Tx) (n : Nat) : upT f (n + 1) = upT f n ++ f n := by simp [upT, List.range_succ]
theorem upT_zero (f : Nat → Tx) : upT f 0 = [] := rfl
theorem upT_len {f : Nat → Tx} {n : Nat} (h : ∀ k, k < n → (f k).length ≤ 500) : ∀ m, m ≤ n → (upT f m).length ≤ 500 * m
  | 0, _ => by simp [upT]
  | m + 1, hm => by
    have h1 := upT_len h m (by omega)
    have h2 := h m (by omega)
    rw [upT_succ, List.length_append]
    omega
theorem upT_fresh {f : Nat → Tx} (h : ∀ k, ∃ t, f k = t ++ [10]) {T : Tx} (hT : Fresh T) : ∀ m, Fresh (T ++ upT f m)
  | 0 => by simpa [upT] using hT
  | m + 1 => by
    obtain ⟨t, ht⟩ := h m
    rw [upT_succ, ht, ← List.append_assoc, ← List.append_assoc]
    exact Fresh.nl _
/-- a forest -/
structure Fo where
  nE : Nat
  E : Nat → EnG
  nC : Nat
  C : Nat → CaG
  nM : Nat
  M : Nat → MaG
  nP : Nat
  P : Nat → List Nat
  nO : Nat
  O : Nat → OuG
structure Fo.Ok (F : Fo) : Prop where
  E : ∀ k, k < F.nE → (F.E k).Ok
  C : ∀ k, k < F.nC → (F.C k).Ok
  M : ∀ k, k < F.nM → (F.M k).Ok
  P : ∀ k, k < F.nP → PgOk (F.P k)
  O : ∀ k, k < F.nO → (F.O k).Ok
  sz : F.nE + F.nC + F.nM + F.nP + F.nO ≤ 1048576
def Fo.e (F : Fo) (k : Nat) : Tx := envT k (F.E k)
def Fo.c (F : Fo) (k : Nat) : Tx := capT (F.C k)
def Fo.m (F : Fo) (k : Nat) : Tx := mapT (F.M k)
def Fo.p (F : Fo) (k : Nat) : Tx := pageT k (F.P k)
def Fo.o (F : Fo) (k : Nat) : Tx := outT k (F.O k)
def Fo.text (F : Fo) : Tx := upT F.e F.nE ++ upT F.c F.nC ++ upT F.m F.nM ++ upT F.p F.nP ++ upT F.o F.nO
theorem nat64 {k : Nat} (h : k ≤ 1048576) : I64 (k : Int) := by constructor <;> omega
theorem all_app {L M : List Int} (h : ∀ z ∈ L, I64 z) (k : ∀ z ∈ M, I64 z) : ∀ z ∈ L ++ M, I64 z := fun z hz => (List.mem_append.1 hz).elim (h z) (k z)
theorem envN64 {k : Nat} {e : EnG} (hk : k ≤ 1048576) (h : e.Ok) : ∀ z ∈ envN k e, I64 z :=
  all_app (all_app (all_cons (nat64 hk) (all_cons h.p (all_cons h.s (all_cons h.c (all_cons h.b (all_cons (fl64 _) all_nil)))))) (iN64 h.w)) (all_cons h.q1 (all_cons h.q2 (all_cons h.q3 all_nil)))
theorem envT_len {k : Nat} {e : EnG} (hk : k ≤ 1048576) (h : e.Ok) : (envT k e).length ≤ 500 := by
  have h1 := lst_len (envN64 hk h)
  have h2 : (envN k e).length = 18 := by simp [envN, iN_len, h.n]
  simp only [envT, List.length_append, List.length_cons, List.length_nil]
  omega
theorem capT_len {c : CaG} (h : c.Ok) : (capT c).length ≤ 500 := by
  have h1 := lst_len (all_cons h.e (all_cons h.s (all_cons h.k (all_cons h.r all_nil))))
  have h2 := lst_len (all_cons h.o (all_cons h.fe (all_cons h.fs all_nil)))
  have h3 : (whr c.inn).length ≤ 3 := by unfold whr; split <;> simp
  simp only [capT, List.length_append, List.length_cons, List.length_nil] at h1 h2 ⊢
  omega
theorem mapT_len {m : MaG} (h : m.Ok) : (mapT m).length ≤ 500 := by
  have h1 := lst_len (all_cons h.e (all_cons h.v (all_cons h.s (all_cons (fl64 m.wr) all_nil))))
  simp only [mapT, List.length_append, List.length_cons, List.length_nil] at h1 ⊢
  omega
theorem pageT_len {k : Nat} (hk : k ≤ 1048576) (W : List Nat) : (pageT k W).length ≤ 500 := by
  have h1 := lst_len (all_cons (nat64 hk) all_nil)
  have h2 := hx_len (bys W)
  rw [bys_len] at h2
  simp only [pageT, List.length_append, List.length_cons, List.length_nil] at h1 ⊢
  omega
theorem outT_len {k : Nat} {o : OuG} (hk : k ≤ 1048576) (h : o.Ok) : (outT k o).length ≤ 500 := by
  have h1 := lst_len (all_cons (nat64 hk) (all_cons h.k (all_cons h.s all_nil)))
  simp only [outT, List.length_append, List.length_cons, List.length_nil] at h1 ⊢
  omega
theorem Fo.Ok.e5 {F : Fo} (h : F.Ok) : ∀ m, m ≤ F.nE → (upT F.e m).length ≤ 500 * m := upT_len fun k hk => envT_len (by have := h.sz; omega) (h.E k hk)
theorem Fo.Ok.c5 {F : Fo} (h : F.Ok) : ∀ m, m ≤ F.nC → (upT F.c m).length ≤ 500 * m := upT_len fun k hk => capT_len (h.C k hk)
theorem Fo.Ok.m5 {F : Fo} (h : F.Ok) : ∀ m, m ≤ F.nM → (upT F.m m).length ≤ 500 * m := upT_len fun k hk => mapT_len (h.M k hk)
theorem Fo.Ok.p5 {F : Fo} (h : F.Ok) : ∀ m, m ≤ F.nP → (upT F.p m).length ≤ 500 * m := upT_len fun k hk => pageT_len (by have := h.sz; omega) _
theorem Fo.Ok.o5 {F : Fo} (h : F.Ok) : ∀ m, m ≤ F.nO → (upT F.o m).length ≤ 500 * m := upT_len fun k hk => outT_len (by have := h.sz; omega) (h.O k hk)
/-- structs in a row, below a block -/
def RowIs (B : Nat) (w : World) (a : Option Addr) (n sz : Nat) (C : Nat → List Value) : Prop :=
  ∀ k, k < n → ∃ ad, a = some ad ∧ ad.block < B ∧ ∀ (j : Nat) (v : Value), (C k)[j]? = some v → w.cell? ((ad.add (k * sz)).add j) = some v
theorem blk_add (a : Addr) (i : Nat) : (a.add i).block = a.block := by unfold Addr.add; split <;> rfl
theorem RowIs.keep {B : Nat} {w w' : World} {a : Option Addr} {n sz : Nat} {C : Nat → List Value} (h : RowIs B w a n sz C) (hb : Below B w w') : RowIs B w' a n sz C := fun k hk => by
  obtain ⟨ad, h1, h2, h3⟩ := h k hk
  exact ⟨ad, h1, h2, fun j v hv => by rw [hb.cell (by rw [blk_add, blk_add]; exact h2)]; exact h3 j v hv⟩
theorem RowIs.mono {B B' : Nat} {w : World} {a : Option Addr} {n sz : Nat} {C : Nat → List Value} (h : RowIs B w a n sz C) (hb : B ≤ B') : RowIs B' w a n sz C := fun k hk => by
  obtain ⟨ad, h1, h2, h3⟩ := h k hk
  exact ⟨ad, h1, by omega, h3⟩
/-- the five slices of a forest -/
structure Fv where
  aE : Option Addr
  cE : Nat
  aC : Option Addr
  cC : Nat
  aM : Option Addr
  cM : Nat
  aP : Option Addr
  cP : Nat
  aO : Option Addr
  cO : Nat
def Fv.cells (v : Fv) (F : Fo) : List Value := [.slice v.aE F.nE v.cE, .slice v.aC F.nC v.cC, .slice v.aM F.nM v.cM, .slice v.aP F.nP v.cP, .slice v.aO F.nO v.cO]
structure FoAt (B : Nat) (w : World) (v : Fv) (F : Fo) : Prop where
  E : RowIs B w v.aE F.nE 17 fun k => (F.E k).cells
  C : RowIs B w v.aC F.nC 8 fun k => (F.C k).cells
  M : RowIs B w v.aM F.nM 4 fun k => (F.M k).cells
  P : RowIs B w v.aP F.nP 32 fun k => pgL (F.P k)
  O : RowIs B w v.aO F.nO 2 fun k => (F.O k).cells
theorem FoAt.keep {B : Nat} {w w' : World} {v : Fv} {F : Fo} (h : FoAt B w v F) (hb : Below B w w') : FoAt B w' v F := ⟨h.E.keep hb, h.C.keep hb, h.M.keep hb, h.P.keep hb, h.O.keep hb⟩
theorem FoAt.mono {B B' : Nat} {w : World} {v : Fv} {F : Fo} (h : FoAt B w v F) (hb : B ≤ B') : FoAt B' w v F := ⟨h.E.mono hb, h.C.mono hb, h.M.mono hb, h.P.mono hb, h.O.mono hb⟩
end Go.Proofs.YtionncfpcbjchaaDoor
