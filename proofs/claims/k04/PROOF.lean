import PyProof.Rows.All
import Wide.All
import OpenK.AllK
import Wide.FinOn
import HandS.Base
import HandS.Call
import HandS.List
import HandS.Comp
import HandS.Ends
import HandS.Dict
import HandS.Iter
import HandS.Text
import HandS.Words
import HandS.WordsList
import HandS.Wide
import HandS.IsInst
import HandS.Walk
import HandS.Style
import HandS.NoneIn
import HandS.EndBits
import PyProof.ReprRoads
import PyProof.ReprLen
import HandS.Sort
import HandS.Conv
import HandS.RevRange
import HandS.WideBits
import HandS.More
import HandS.Small
import HandS.Exc
import HandS.ExcInit
import HandS.Nested
import KE.KExcSuper
import KE.KSuper
import HandS.ForExc
import HandS.ExcOwn
import HandS.TryOnly
import HandS.FStr
import HandS.WordsExc
import PyProof.FString2
import PyProof.Rows.SeqMore
import PyProof.NeKinds
import HandS.TupAny
import HandS.SortKw
import HandS.SortInts
import PyProof.MinMaxWalk
import PyProof.WalkInts
import HandS.Zip
import HandS.ExcIs
import KE.KExcIs
import HandS.ExcField
import HandS.ExcValue
import HandS.RaiseMore
import PySem.Challenge.RW_bakeahead_k04_refusals_made
set_option Elab.async false
set_option linter.all false
set_option maxRecDepth 100000
set_option maxHeartbeats 4000000
namespace Bk
open PySem PySem.Spec PyProof.Rows L2
/-! ### a def of the text with its promise -/
structure Def (P : Program) (w : World) (K : PySem.W.Frag) (mg : Str → Option Value) (base : Heap) (x : Str) (k : Nat) (ps : List Str) (sp : Sp) : Prop where
  ex : ∃ (f : Addr) (fd : FuncData), mg x = some (.ref f) ∧ PySem.W.keepIn K (.ref f) = true ∧ Binds K fd ps [] ∧ FnOk P w K mg base CX0 k f fd ps sp
theorem pe_callD {X : Cx} {x : Str} {k j : Nat} {ps : List Str} {sp : Sp} {e : Expr} {es : List Expr} {t : TA} {p pos : Pos} (D : Def X.prog X.w X.K X.mg X.base x k ps sp) (hr : Room j X.A) (hg : Gl X x) (ha : PA X (e :: es) t)
    (hkj : k ≤ j := by omega) (hdb : (x == ("__debug__" : Str)) = false := by decide) (he : starEach (e :: es) X.env = (false, eval e X.env) :: starEach es X.env := by rfl) (hpl : (backTo pos (starEach es X.env)).any (·.1) = false := by rfl) :
    PE X (.Call (.Name x p) (e :: es) [] pos) (tCall sp [] E0 t) := by
  obtain ⟨f, fd, hm, hk, hb, F⟩ := D.ex
  exact pe_call F (hr.mono hkj) hg hm hk hb .nil pass0 ha hdb he hpl
theorem same_upd {H : Hp} {p : Addr} {o : HO} (h : H p = none) : Same H (upd H p o) := fun b x e => by
  rw [upd_ne (ne_of_none e h)]
  exact e
/-- what H does not know may change -/
theorem same_mut {H H' : Hp} {p : Addr} {o : HO} (e : Same H H') (h : H p = none) : Same H (upd H' p o) := fun b x q => by
  rw [upd_ne (ne_of_none q h)]
  exact e b x q
theorem _root_.L2.SqL.upd_ {K : PySem.W.Frag} {H : Hp} {a p : Addr} {o : HO} {xs : List V} (h : SqL K H a xs) (hp : H p = none) : SqL K (upd H p o) a xs := (same_upd hp).seq h
theorem Same.tup {K : PySem.W.Frag} {H H' : Hp} {a : Addr} {xs : List V} (e : Same H H') (h : SqT K H a xs) : SqT K H' a xs := by
  rcases h with (h | ⟨o, h⟩) | h
  · exact .inl (.inl (e _ _ h))
  · exact .inl (.inr ⟨o, e _ _ h⟩)
  · exact .inr h
/-- the written part of a def's place -/
theorem cxK {CX : CXT} {P : Program} {w : World} {K : PySem.W.Frag} {mg : Str → Option Value} {base : Heap} {N : List Str} {qual : Str} {scope : Scope} {f : Addr} {cd : Value} {A : Around} {outer : List Env} {s : Shared} {H : Hp} {E : XK} :
    (cxOf CX P w K mg base N qual scope f cd A outer s H E).K = K := rfl
theorem rI_ii {C : Int → Int → Prop} {g : Int → Int → V} {i j : Int} {H : Hp} {Q : VK} : rI C g (.int i) (.int j) H Q = (C i j ∧ Q (g i j) H) := propext ⟨fun ⟨a, b, e1, e2, h⟩ => by cases e1; cases e2; exact h, fun h => ⟨i, j, rfl, rfl, h⟩⟩
theorem rI0_ii {g : Int → Int → V} {i j : Int} {H : Hp} {Q : VK} : rI0 g (.int i) (.int j) H Q = Q (g i j) H := propext ⟨fun ⟨a, b, e1, e2, h⟩ => by cases e1; cases e2; exact h, fun h => ⟨i, j, rfl, rfl, h⟩⟩
theorem rU_i {g : Int → V} {i : Int} {H : Hp} {Q : VK} : rU g (.int i) H Q = Q (g i) H := propext ⟨fun ⟨a, e1, h⟩ => by cases e1; exact h, fun h => ⟨i, rfl, h⟩⟩
theorem rIxL_r {K : PySem.W.Frag} {p : Addr} {i : Int} {H : Hp} {Q : VK} : rIxL K (.ref p) (.int i) H Q = ∃ xs v, SqL K H p xs ∧ atI xs i = some v ∧ Q v H := propext ⟨fun ⟨a, xs, b, v, e1, e2, h⟩ => by cases e1; cases e2; exact ⟨xs, v, h⟩, fun ⟨xs, v, h⟩ => ⟨p, xs, i, v, rfl, rfl, h⟩⟩
theorem rIxT_r {K : PySem.W.Frag} {p : Addr} {i : Int} {H : Hp} {Q : VK} : rIxT K (.ref p) (.int i) H Q = ∃ xs v, SqT K H p xs ∧ atI xs i = some v ∧ Q v H := propext ⟨fun ⟨a, xs, b, v, e1, e2, h⟩ => by cases e1; cases e2; exact ⟨xs, v, h⟩, fun ⟨xs, v, h⟩ => ⟨p, xs, i, v, rfl, rfl, h⟩⟩
theorem rAppend_r {l : Addr} {y : V} {H : Hp} {Q : VK} : rAppend (.ref l) [y] H Q = ∃ xs, H l = some (.lst xs) ∧ xs.length < sizeLine ∧ Q .non (upd H l (.lst (xs ++ [y]))) :=
  propext ⟨fun ⟨a, xs, b, e1, e2, h⟩ => by cases e1; cases e2; exact ⟨xs, h⟩, fun ⟨xs, h⟩ => ⟨l, xs, y, rfl, rfl, h⟩⟩
theorem tyL {K : PySem.W.Frag} {l : Addr} {H : Hp} {xs : List V} (h : SqL K H l xs) : tyV K "list" (.ref l) H := .inl ⟨rfl, xs, h⟩
theorem atI_of {α : Type} {xs : List α} {i : Int} {v : α} (h0 : 0 ≤ i) (h : xs[i.toNat]? = some v) : atI xs i = some v := by
  have e : i = ((i.toNat : Nat) : Int) := by omega
  rw [e]
  exact atI_nat h
theorem atI_map {α : Type} {f : α → V} {xs : List α} {i : Int} {v : α} (h0 : 0 ≤ i) (h : xs[i.toNat]? = some v) : atI (xs.map f) i = some (f v) := atI_of h0 (by rw [List.getElem?_map, h]; rfl)
theorem sz100 {n : Nat} (h : n ≤ 100000) : n ≤ sizeLine := Nat.le_trans h (by decide)
theorem sz100l {n : Nat} (h : n < 100000) : n < sizeLine := Nat.lt_of_lt_of_le h (by decide)
/-! ### calls of built-ins by named readings -/
def rMx : List V → Hp → VK → Prop := fun xs H Q => ∃ i j, xs = [.int i, .int j] ∧ Q (.int (if j > i then j else i)) H
def rMn : List V → Hp → VK → Prop := fun xs H Q => ∃ i j, xs = [.int i, .int j] ∧ Q (.int (if j < i then j else i)) H
theorem call_mx {X : Cx} (hc : X.calm = true) : CallR X (.builtin "max") rMx := call_max2 hc
theorem call_mn {X : Cx} (hc : X.calm = true) : CallR X (.builtin "min") rMn := call_min2 hc
theorem rMx_ii {i j : Int} {H : Hp} {Q : VK} : rMx [.int i, .int j] H Q = Q (.int (if j > i then j else i)) H := propext ⟨fun ⟨a, b, e, h⟩ => by cases e; exact h, fun h => ⟨i, j, rfl, h⟩⟩
theorem rMn_ii {i j : Int} {H : Hp} {Q : VK} : rMn [.int i, .int j] H Q = Q (.int (if j < i then j else i)) H := propext ⟨fun ⟨a, b, e, h⟩ => by cases e; exact h, fun h => ⟨i, j, rfl, h⟩⟩
/-- len of a list, of a tuple -/
def rLnL (K : PySem.W.Frag) : List V → Hp → VK → Prop := fun xs H Q => ∃ p ys, xs = [.ref p] ∧ SqL K H p ys ∧ Q (.int ys.length) H
def rLnT (K : PySem.W.Frag) : List V → Hp → VK → Prop := fun xs H Q => ∃ p ys, xs = [.ref p] ∧ SqT K H p ys ∧ Q (.int ys.length) H
theorem call_lnL {X : Cx} : CallR X (.builtin "len") (rLnL X.K) := fun pins s σ H xs us Q I r ⟨p, ys, e, h, q⟩ => call_len_seq pins s σ H xs us Q I r ⟨p, ys, e, .inl h, q⟩
theorem call_lnT {X : Cx} : CallR X (.builtin "len") (rLnT X.K) := fun pins s σ H xs us Q I r ⟨p, ys, e, h, q⟩ => call_len_seq pins s σ H xs us Q I r ⟨p, ys, e, .inr h, q⟩
theorem rLnL_r {K : PySem.W.Frag} {p : Addr} {H : Hp} {Q : VK} : rLnL K [.ref p] H Q = ∃ ys, SqL K H p ys ∧ Q (.int ys.length) H := propext ⟨fun ⟨a, ys, e, h⟩ => by cases e; exact ⟨ys, h⟩, fun ⟨ys, h⟩ => ⟨p, ys, rfl, h⟩⟩
theorem rLnT_r {K : PySem.W.Frag} {p : Addr} {H : Hp} {Q : VK} : rLnT K [.ref p] H Q = ∃ ys, SqT K H p ys ∧ Q (.int ys.length) H := propext ⟨fun ⟨a, ys, e, h⟩ => by cases e; exact ⟨ys, h⟩, fun ⟨ys, h⟩ => ⟨p, ys, rfl, h⟩⟩
/-- for k in range(n), range(a, b) -/
theorem q_range1 {ta : TA} {n : Int} {g : TG} {tb : TS} {D : Ends} {σ : L2.St} {H : Hp} (h : ta σ H fun vs H1 => vs = [.int n] ∧ H1 = H) (h1 : n < 2 ^ 62) (h0 : -(2 ^ 62) ≤ n) (Pv : Nat → L2.St → Hp → Prop)
    (hm : ∀ {P Q : List V → Hp → Prop}, ta σ H P → (∀ vs H', P vs H' → Q vs H') → ta σ H Q)
    (a : Pv 0 σ H) (hs : ∀ i σ H, i < n.toNat → Pv i σ H → g (.int (i : Int)) σ H fun σ2 H2 => tb { D with nx := Pv (i + 1), ct := Pv (i + 1), bk := D.nx } σ2 H2) (hd : ∀ σ H, Pv n.toNat σ H → D.nx σ H) : tFor (iRng1 ta) g tb D σ H := by
  refine hm h fun vs H1 e => ?_
  obtain ⟨rfl, rfl⟩ := e
  exact ⟨n, rfl, h0, h1, for_range (lo := 0) (n := n.toNat) Pv a (fun i σ H hi p => by rw [Int.zero_add]; exact hs i σ H hi p) hd⟩
/-! ### any thing, as data -/
mutual
inductive Th (K : PySem.W.Frag) (H : Hp) : V → PyData → Prop
  | non : Th K H .non .none
  | bl (b : Bool) : Th K H (.bl b) (.bool b)
  | int (i : Int) : Th K H (.int i) (.int i)
  | str (x : Str) : Th K H (.str x) (.str x)
  | lst {a : Addr} {xs : List V} {ds : List PyData} : SqL K H a xs → ThAll K H xs ds → Th K H (.ref a) (.list ds)
  | tup {a : Addr} {xs : List V} {ds : List PyData} : SqT K H a xs → ThAll K H xs ds → Th K H (.ref a) (.tuple ds)
  | dic {a : Addr} : H a = some (.dK []) → Th K H (.ref a) (.dict [])
inductive ThAll (K : PySem.W.Frag) (H : Hp) : List V → List PyData → Prop
  | nil : ThAll K H [] []
  | cons {v : V} {vs : List V} {d : PyData} {ds : List PyData} : Th K H v d → ThAll K H vs ds → ThAll K H (v :: vs) (d :: ds)
end
mutual
theorem Th.same {K : PySem.W.Frag} {H H' : Hp} (e : Same H H') : ∀ {v : V} {d : PyData}, Th K H v d → Th K H' v d
  | _, _, .non => .non
  | _, _, .bl b => .bl b
  | _, _, .int i => .int i
  | _, _, .str x => .str x
  | _, _, .lst h t => .lst (e.seq h) (ThAll.same e t)
  | _, _, .tup h t => .tup (Same.tup e h) (ThAll.same e t)
  | _, _, .dic h => .dic (e _ _ h)
theorem ThAll.same {K : PySem.W.Frag} {H H' : Hp} (e : Same H H') : ∀ {vs : List V} {ds : List PyData}, ThAll K H vs ds → ThAll K H' vs ds
  | _, _, .nil => .nil
  | _, _, .cons h t => .cons (Th.same e h) (ThAll.same e t)
end
theorem ThAll.length {K : PySem.W.Frag} {H : Hp} : ∀ {vs : List V} {ds : List PyData}, ThAll K H vs ds → vs.length = ds.length
  | _, _, .nil => rfl
  | _, _, .cons _ t => by rw [List.length_cons, List.length_cons, ThAll.length t]
theorem ThAll.get {K : PySem.W.Frag} {H : Hp} : ∀ {vs : List V} {ds : List PyData} {i : Nat} {v : V}, ThAll K H vs ds → vs[i]? = some v → ∃ d, ds[i]? = some d ∧ Th K H v d
  | _, _, _, _, .nil, e => by simp at e
  | _, _, 0, _, .cons h _, e => by
    rw [List.getElem?_cons_zero] at e
    cases e
    exact ⟨_, List.getElem?_cons_zero .., h⟩
  | _, _, i + 1, _, .cons _ t, e => by
    rw [List.getElem?_cons_succ] at e
    obtain ⟨d, h1, h2⟩ := ThAll.get t e
    exact ⟨d, by rw [List.getElem?_cons_succ]; exact h1, h2⟩
theorem ThAll.get' {K : PySem.W.Frag} {H : Hp} {vs : List V} {ds : List PyData} {i : Nat} {d : PyData} (t : ThAll K H vs ds) (e : ds[i]? = some d) : ∃ v, vs[i]? = some v ∧ Th K H v d := by
  have hi : i < vs.length := by
    rw [t.length]
    exact (List.getElem?_eq_some_iff.mp e).1
  obtain ⟨d', h1, h2⟩ := t.get (List.getElem?_eq_getElem hi)
  have e2 : d' = d := Option.some.inj (h1.symm.trans e)
  subst e2
  exact ⟨_, List.getElem?_eq_getElem hi, h2⟩
theorem ThAll.ints {K : PySem.W.Frag} {H : Hp} : ∀ ns : List Int, ThAll K H (ns.map V.int) (ns.map PyData.int)
  | [] => .nil
  | n :: r => .cons (.int n) (ThAll.ints r)
/-- the built-in classes that are asked for -/
inductive Cl | int | bool | list | tuple | str | dict
def Cl.name : Cl → String
  | .int => "int" | .bool => "bool" | .list => "list" | .tuple => "tuple" | .str => "str" | .dict => "dict"
def kindD : PyData → String
  | .none => "NoneType" | .bool _ => "bool" | .int _ => "int" | .str _ => "str" | .list _ => "list" | .tuple _ => "tuple" | .dict _ => "dict"
def isD : Cl → PyData → Bool
  | .int, .int _ => true
  | .int, .bool _ => true
  | .bool, .bool _ => true
  | .list, .list _ => true
  | .tuple, .tuple _ => true
  | .str, .str _ => true
  | .dict, .dict _ => true
  | _, _ => false
def isN (c : Cl) (n : String) : Bool := n == c.name || (n == "bool" && c.name == "int")
theorem isN_kit : ∀ (c : Cl), ∀ n ∈ ["NoneType", "bool", "int", "str", "list", "tuple", "dict"], kitB n c.name = some (isN c n) := by
  intro c
  cases c <;> decide +kernel
theorem kindD_mem (d : PyData) : kindD d ∈ ["NoneType", "bool", "int", "str", "list", "tuple", "dict"] := by cases d <;> simp [kindD]
theorem isN_tab : ∀ c : Cl, isN c "NoneType" = isD c .none ∧ isN c "bool" = isD c (.bool true) ∧ isN c "int" = isD c (.int 0) ∧ isN c "str" = isD c (.str "") ∧ isN c "list" = isD c (.list []) ∧ isN c "tuple" = isD c (.tuple []) ∧ isN c "dict" = isD c (.dict []) := by
  intro c
  cases c <;> decide +kernel
theorem isD_N (c : Cl) (d : PyData) : isN c (kindD d) = isD c d := by
  obtain ⟨h1, h2, h3, h4, h5, h6, h7⟩ := isN_tab c
  cases d with
  | none => exact h1
  | bool b => exact h2.trans (by cases c <;> rfl)
  | int i => exact h3.trans (by cases c <;> rfl)
  | str x => exact h4.trans (by cases c <;> rfl)
  | list x => exact h5.trans (by cases c <;> rfl)
  | tuple x => exact h6.trans (by cases c <;> rfl)
  | dict x => exact h7.trans (by cases c <;> rfl)
theorem isD_kit {K : PySem.W.Frag} (c : Cl) (d : PyData) : PySem.W.kitOne K (.type (kindD d)) (.type c.name) = some (isD c d) := by
  rw [← isD_N]
  exact kit_ty (isN_kit c _ (kindD_mem d))
theorem Th.ty {K : PySem.W.Frag} {H : Hp} {v : V} {d : PyData} (h : Th K H v d) : TyX K H v (.type (kindD d)) := by
  cases h with
  | non => exact .base .non
  | bl b => exact .base (.bl b)
  | int i => exact .base (.int i)
  | str x => exact .base (.str x)
  | lst h _ =>
    rcases h with (h | ⟨o, h⟩) | ⟨o, its, n, h, c, _⟩
    · exact .base (.lst h)
    · exact .base (.frz h)
    · exact .kList h c
  | tup h _ =>
    rcases h with (h | ⟨o, h⟩) | ⟨o, its, n, h, c, _⟩
    · exact .base (.tup h)
    · exact .fTuple h
    · exact .kTuple h c
  | dic h => exact .base (.dK h)
/-- isinstance(x, a built-in class) of any thing -/
def rIsD (K : PySem.W.Frag) (c : Cl) : List V → Hp → VK → Prop := fun xs H Q => ∃ x d, xs = [x, .ty c.name] ∧ Th K H x d ∧ Q (.bl (isD c d)) H
theorem call_isD {X : Cx} (c : Cl) : CallR X (.builtin "isinstance") (rIsD X.K c) := fun pins s σ H xs us Q I r ⟨x, d, e, h, q⟩ =>
  call_isi pins s σ H xs us Q I r ⟨x, .ty c.name, .type (kindD d), .type c.name, isD c d, e, .ty _, h.ty, isD_kit c d, q⟩
theorem rIsD_int {K : PySem.W.Frag} {x : V} {H : Hp} {Q : VK} : rIsD K .int [x, .ty "int"] H Q = ∃ d, Th K H x d ∧ Q (.bl (isD .int d)) H := propext ⟨fun ⟨y, d, e, h⟩ => by cases e; exact ⟨d, h⟩, fun ⟨d, h⟩ => ⟨x, d, rfl, h⟩⟩
theorem rIsD_bool {K : PySem.W.Frag} {x : V} {H : Hp} {Q : VK} : rIsD K .bool [x, .ty "bool"] H Q = ∃ d, Th K H x d ∧ Q (.bl (isD .bool d)) H := propext ⟨fun ⟨y, d, e, h⟩ => by cases e; exact ⟨d, h⟩, fun ⟨d, h⟩ => ⟨x, d, rfl, h⟩⟩
theorem rIsD_list {K : PySem.W.Frag} {x : V} {H : Hp} {Q : VK} : rIsD K .list [x, .ty "list"] H Q = ∃ d, Th K H x d ∧ Q (.bl (isD .list d)) H := propext ⟨fun ⟨y, d, e, h⟩ => by cases e; exact ⟨d, h⟩, fun ⟨d, h⟩ => ⟨x, d, rfl, h⟩⟩
theorem rIsD_tuple {K : PySem.W.Frag} {x : V} {H : Hp} {Q : VK} : rIsD K .tuple [x, .ty "tuple"] H Q = ∃ d, Th K H x d ∧ Q (.bl (isD .tuple d)) H := propext ⟨fun ⟨y, d, e, h⟩ => by cases e; exact ⟨d, h⟩, fun ⟨d, h⟩ => ⟨x, d, rfl, h⟩⟩
def wholeD : PyData → Bool
  | .int _ => true
  | _ => false
def numD : PyData → Bool
  | .int i => decide (0 ≤ i) && decide (i ≤ 1000000000)
  | _ => false
theorem wholeD_is (d : PyData) : (isD .int d && !isD .bool d) = wholeD d := by cases d <;> rfl
theorem pe_globI {X : Cx} {x : Str} {i : Int} {t : Tok} {pos : Pos} (hg : Gl X x) (hm : X.mg x = some (.int i t)) (hd : (x == ("__debug__" : Str)) = false := by decide) : PE X (.Name x pos) (tC (.int i)) := pe_glob hg hm ⟨_, rfl⟩ hd
/-- isinstance(x, int) and not isinstance(x, bool) -/
theorem e_whole {K : PySem.W.Frag} {i j : Nat} {σ : L2.St} {H : Hp} {x : V} {d : PyData} {Q : VK} (hx : Th K H x d) (hi : σ[i]? = some (some x)) (hj : σ[j]? = some (some x)) (q : Q (.bl (wholeD d)) H) :
    tAndV (tCB (rIsD K .int) (tCons (tVar i) (tCons (tC (.ty "int")) tNil))) (tNotV (tCB (rIsD K .bool) (tCons (tVar j) (tCons (tC (.ty "bool")) tNil)))) σ H Q := by
  refine ⟨x, hi, x, d, rfl, hx, isD .int d, rfl, ite2 (fun h => ⟨x, hj, x, d, rfl, hx, isD .bool d, rfl, ?_⟩) (fun h => ?_)⟩
  · rw [← wholeD_is, h] at q
    exact q
  · rw [← wholeD_is, Bool.eq_false_iff.mpr h] at q
    exact q
theorem cutV_mem {xs : List V} {lo hi : Option Int} {x : V} (h : x ∈ cutV xs lo hi) : x ∈ xs := List.mem_of_mem_drop (List.mem_of_mem_take h)
theorem cutV_length (xs : List V) (lo hi : Option Int) : (cutV xs lo hi).length ≤ xs.length := by
  unfold cutV
  rw [List.length_take, List.length_drop]
  omega
theorem gCons_c {t : TG} {u : TGs} {v : V} {r : List V} {σ : L2.St} {H : Hp} {Q : L2.St → Hp → Prop} : gCons t u (v :: r) σ H Q = t v σ H fun σ' H' => u r σ' H' Q := propext ⟨fun ⟨a, b, e, h⟩ => by cases e; exact h, fun h => ⟨v, r, rfl, h⟩⟩
theorem gNil_n {σ : L2.St} {H : Hp} {Q : L2.St → Hp → Prop} : gNil [] σ H Q = Q σ H := propext ⟨fun h => h.2, fun h => ⟨rfl, h⟩⟩
theorem five {α : Type} {l : List α} (h : l.length = 5) : ∃ a b c d e, l = [a, b, c, d, e] := by
  match l, h with
  | [a, b, c, d, e], _ => exact ⟨a, b, c, d, e, rfl⟩
/-! ### loops and comprehensions, kept shut -/
def LoopR (J : It) (g : TG) (tb : TS) (D : Ends) (σ : L2.St) (H : Hp) : Prop := ∃ W : Nat → Nat → L2.St → Hp → Prop, (∃ m, W 0 m σ H) ∧ ∀ i m σ H, W i m σ H →
  (J.stop i H ∧ D.nx σ H) ∨ (J.go i H ∧ ∃ N : L2.St → Hp → Prop, (∀ σ' H', N σ' H' → ∃ m', m' < m ∧ W (i + 1) m' σ' H') ∧ ∀ x H', J.yld i H x H' → g x σ H' fun σ2 H2 => tb { D with nx := N, ct := N, bk := D.nx } σ2 H2)
theorem tFor_eq {wi : TI} {g : TG} {tb : TS} {D : Ends} {σ : L2.St} {H : Hp} : tFor wi g tb D σ H = wi σ H fun J H1 => LoopR J g tb D σ H1 := rfl
theorem LoopR.by {J : It} {n : Nat} {G : Hp → Prop} {Y : Nat → Hp → V → Hp → Prop} (w : Walk J n G Y) {g : TG} {tb : TS} {D : Ends} {σ : L2.St} {H : Hp} (Pv : Nat → L2.St → Hp → Prop) (h0 : Pv 0 σ H) (hG : ∀ i σ H, i ≤ n → Pv i σ H → G H)
    (hs : ∀ i x σ H H', i < n → Pv i σ H → Y i H x H' → g x σ H' fun σ2 H2 => tb { D with nx := Pv (i + 1), ct := Pv (i + 1), bk := D.nx } σ2 H2) (hd : ∀ σ H, Pv n σ H → D.nx σ H) : LoopR J g tb D σ H := for_it w Pv h0 hG hs hd
def LcR (J : It) (g : TG) (tt : TT) (te : TE) (vs : List Nat) (σ : L2.St) (D : Addr) (H1 : Hp) (Qd : Hp → Prop) : Prop := ∃ W : Nat → Nat → Hp → Prop, (∃ m, W 0 m (upd H1 D (.lst []))) ∧ ∀ i m H, W i m H →
  (J.stop i H ∧ Qd H) ∨ (J.go i H ∧ ∃ Nx : Hp → Prop, (∀ H', Nx H' → ∃ m', m' < m ∧ W (i + 1) m' H') ∧ ∀ x H', J.yld i H x H' → g x (wipe σ vs) H' fun σ2 H2 => wipe σ2 vs = wipe σ vs ∧ tt σ2 H2 fun b H3 =>
    if b = true then te σ2 H3 fun y H4 => ∃ acc, H4 D = some (.lst acc) ∧ acc.length < sizeLine ∧ Nx (upd H4 D (.lst (acc ++ [y]))) else Nx H3)
theorem tLc_eq {wi : TI} {g : TG} {tt : TT} {te : TE} {vs : List Nat} {σ : L2.St} {H : Hp} {Q : VK} : tLc wi g tt te vs σ H Q = wi σ H fun J H1 => ∀ D, H1 D = none → LcR J g tt te vs σ D H1 (fun H => Q (.ref D) H) := rfl
theorem LcR.by {J : It} {n : Nat} {G : Hp → Prop} {Y : Nat → Hp → V → Hp → Prop} (w : Walk J n G Y) {g : TG} {tt : TT} {te : TE} {vs : List Nat} {σ : L2.St} {H1 : Hp} {D : Addr} {Qd : Hp → Prop} (Pv : Nat → Hp → Prop) (h0 : Pv 0 (upd H1 D (.lst []))) (hG : ∀ i H, i ≤ n → Pv i H → G H)
    (hs : ∀ i x H H', i < n → Pv i H → Y i H x H' → g x (wipe σ vs) H' fun σ2 H2 => wipe σ2 vs = wipe σ vs ∧ tt σ2 H2 fun b H3 =>
      if b = true then te σ2 H3 fun y H4 => ∃ acc, H4 D = some (.lst acc) ∧ acc.length < sizeLine ∧ Pv (i + 1) (upd H4 D (.lst (acc ++ [y]))) else Pv (i + 1) H3) (hd : ∀ H, Pv n H → Qd H) : LcR J g tt te vs σ D H1 Qd := lc_it w Pv h0 hG hs hd
theorem iList_r {K : PySem.W.Frag} {te : TE} {σ : L2.St} {H : Hp} {R : It → Hp → Prop} : iList K te σ H R = te σ H fun x H1 => ∃ a, x = .ref a ∧ (∃ xs, SqL K H1 a xs) ∧ R (Itl K a) H1 := rfl
theorem gTup_r {K : PySem.W.Frag} {n : Nat} {t : TGs} {a : Addr} {σ : L2.St} {H : Hp} {Q : L2.St → Hp → Prop} : gTup K n t (.ref a) σ H Q = ∃ xs, SqT K H a xs ∧ xs.length = n ∧ t xs σ H Q := propext ⟨fun ⟨b, xs, e, h⟩ => by cases e; exact ⟨xs, h⟩, fun ⟨xs, h⟩ => ⟨a, xs, rfl, h⟩⟩
def rEnum (K : PySem.W.Frag) (vs : List V) (H1 : Hp) (R : It → Hp → Prop) : Prop := ∃ a xs, vs = [.ref a] ∧ SqL K H1 a xs ∧ R (Ite K a) H1
theorem iEnum_eq {K : PySem.W.Frag} {ta : TA} {σ : L2.St} {H : Hp} {R : It → Hp → Prop} : iEnum K ta σ H R = ta σ H fun vs H1 => rEnum K vs H1 R := rfl
theorem rEnum_r {K : PySem.W.Frag} {a : Addr} {H : Hp} {R : It → Hp → Prop} : rEnum K [.ref a] H R = ∃ xs, SqL K H a xs ∧ R (Ite K a) H := propext ⟨fun ⟨b, xs, e, h⟩ => by cases e; exact ⟨xs, h⟩, fun ⟨xs, h⟩ => ⟨a, xs, rfl, h⟩⟩
def rZip (K : PySem.W.Frag) (vs : List V) (H1 : Hp) (R : It → Hp → Prop) : Prop := ∃ a b xs ys, vs = [.ref a, .ref b] ∧ SqL K H1 a xs ∧ SqL K H1 b ys ∧ R (Itz K a b) H1
theorem iZip_eq {K : PySem.W.Frag} {ta : TA} {σ : L2.St} {H : Hp} {R : It → Hp → Prop} : iZip K ta σ H R = ta σ H fun vs H1 => rZip K vs H1 R := rfl
theorem rZip_r {K : PySem.W.Frag} {a b : Addr} {H : Hp} {R : It → Hp → Prop} : rZip K [.ref a, .ref b] H R = ∃ xs ys, SqL K H a xs ∧ SqL K H b ys ∧ R (Itz K a b) H := propext ⟨fun ⟨_, _, xs, ys, e, h⟩ => by cases e; exact ⟨xs, ys, h⟩, fun ⟨xs, ys, h⟩ => ⟨a, b, xs, ys, rfl, h⟩⟩
def rRng1 (vs : List V) (H1 : Hp) (R : It → Hp → Prop) : Prop := ∃ j : Int, vs = [.int j] ∧ -(2 ^ 62) ≤ j ∧ j < 2 ^ 62 ∧ R (Itr 0 j.toNat) H1
theorem iRng1_eq {ta : TA} {σ : L2.St} {H : Hp} {R : It → Hp → Prop} : iRng1 ta σ H R = ta σ H fun vs H1 => rRng1 vs H1 R := rfl
theorem rRng1_i {j : Int} {H : Hp} {R : It → Hp → Prop} : rRng1 [.int j] H R = (-(2 ^ 62) ≤ j ∧ j < 2 ^ 62 ∧ R (Itr 0 j.toNat) H) := propext ⟨fun ⟨_, e, h⟩ => by cases e; exact h, fun h => ⟨j, rfl, h⟩⟩
def rRng2 (vs : List V) (H1 : Hp) (R : It → Hp → Prop) : Prop := ∃ i j : Int, vs = [.int i, .int j] ∧ (-(2 ^ 62) ≤ i ∧ i < 2 ^ 62 ∧ -(2 ^ 62) ≤ j ∧ j < 2 ^ 62) ∧ R (Itr i (j - i).toNat) H1
theorem iRng2_eq {ta : TA} {σ : L2.St} {H : Hp} {R : It → Hp → Prop} : iRng2 ta σ H R = ta σ H fun vs H1 => rRng2 vs H1 R := rfl
theorem rRng2_i {i j : Int} {H : Hp} {R : It → Hp → Prop} : rRng2 [.int i, .int j] H R = ((-(2 ^ 62) ≤ i ∧ i < 2 ^ 62 ∧ -(2 ^ 62) ≤ j ∧ j < 2 ^ 62) ∧ R (Itr i (j - i).toNat) H) := propext ⟨fun ⟨_, _, e, h⟩ => by cases e; exact h, fun h => ⟨i, j, rfl, h⟩⟩
theorem rSlL_r {K : PySem.W.Frag} {a : Addr} {lo hi : Option Int} {H : Hp} {Q : VK} : rSlL K (.ref a) lo hi H Q = ∃ xs, SqL K H a xs ∧ ∀ p, H p = none → Q (.ref p) (upd H p (.lst (cutV xs lo hi))) := propext ⟨fun ⟨_, xs, e, h⟩ => by cases e; exact ⟨xs, h⟩, fun ⟨xs, h⟩ => ⟨a, xs, rfl, h⟩⟩
theorem rCat_r {l b : Addr} {H : Hp} {Q : VK} : rCat (.ref l) (.ref b) H Q = ∃ xs zs, H l = some (.lst xs) ∧ H b = some (.lst zs) ∧ xs.length + zs.length ≤ sizeLine ∧ ∀ p, H p = none → Q (.ref p) (upd H p (.lst (xs ++ zs))) := propext ⟨fun ⟨_, _, xs, zs, e1, e2, h⟩ => by cases e1; cases e2; exact ⟨xs, zs, h⟩, fun ⟨xs, zs, h⟩ => ⟨l, b, xs, zs, rfl, rfl, h⟩⟩
end Bk

namespace Bk
open PySem PySem.Spec PyProof.Rows L2
/-! ### a comprehension without tests, by what each turn gives -/
theorem LcR.map {J : It} {n : Nat} {G : Hp → Prop} {Y : Nat → Hp → V → Hp → Prop} (w : Walk J n G Y) {g : TG} {te : TE} {vs : List Nat} {σ : L2.St} {H1 : Hp} {D : Addr} {Qd : Hp → Prop} (ys : List V) (hD : H1 D = none) (hn : ys.length = n) (hz : n ≤ 100000)
    (hG : ∀ H, Same H1 H → G H) (hY : ∀ i H x H', Y i H x H' → Same H H')
    (hs : ∀ i x y H H', i < n → Same H1 H' → Y i H x H' → ys[i]? = some y → ∀ R : V → Hp → Prop, (∀ H4, Same H' H4 → R y H4) → g x (wipe σ vs) H' fun σ2 H2 => wipe σ2 vs = wipe σ vs ∧ te σ2 H2 R)
    (hd : ∀ H, Same H1 H → H D = some (.lst ys) → Qd H) : LcR J g tYes te vs σ D H1 Qd := by
  refine LcR.by w (fun i H => Same H1 H ∧ H D = some (.lst (ys.take i))) ⟨same_upd hD, by rw [upd_same]; rfl⟩ (fun i H _ h => hG H h.1) (fun i x H H' hi h y => ?_) (fun H h => hd H h.1 ?_)
  · have s := hY _ _ _ _ y
    have e : ys[i]? = some (ys[i]'(by omega)) := List.getElem?_eq_getElem (by omega)
    refine hs i x _ H H' hi (h.1.trans s) y e _ fun H4 s4 => ?_
    have e4 := s4 _ _ (s _ _ h.2)
    refine ⟨_, e4, ?_, same_mut ((h.1.trans s).trans s4) hD, ?_⟩
    · rw [List.length_take]
      exact sz100l (by omega)
    · rw [upd_same, List.take_add_one, e]
      rfl
  · rw [← hn, List.take_length] at h
    exact h.2
theorem yat_same {xs : List V} {i : Nat} {H H' : Hp} {x : V} (y : YAt xs i H x H') : Same H H' := by
  rw [y.1]
  exact Same.refl H
theorem yfn_same {f : Nat → V} {i : Nat} {H H' : Hp} {x : V} (y : YFn f i H x H') : Same H H' := by
  rw [y.1]
  exact Same.refl H
theorem ypair_same {xs ys : Nat → Option V} {i : Nat} {H H' : Hp} {x : V} (y : YPair xs ys i H x H') : Same H H' := by
  obtain ⟨T, a, b, _, hT, e, _⟩ := y
  rw [e]
  exact same_upd hT
theorem rAll_r {K : PySem.W.Frag} {p : Addr} {H : Hp} {Q : VK} : rAll K [.ref p] H Q = ∃ bs : List Bool, SqL K H p (bs.map V.bl) ∧ Q (.bl (bs.all id)) H := propext ⟨fun ⟨a, bs, e, h⟩ => by cases e; exact ⟨bs, h⟩, fun ⟨bs, h⟩ => ⟨p, bs, rfl, h⟩⟩
theorem rSum_r {K : PySem.W.Frag} {p : Addr} {H : Hp} {Q : VK} : rSum K [.ref p] H Q = ∃ ns : List Int, SqL K H p (ns.map V.int) ∧ Q (.int ns.sum) H := propext ⟨fun ⟨a, bs, e, h⟩ => by cases e; exact ⟨bs, h⟩, fun ⟨bs, h⟩ => ⟨p, bs, rfl, h⟩⟩
/-! ### what a bakery is, as data -/
structure Day where
  want : Int
  loaf : Int
  keep : Int
  fine : Option Int
structure Good where
  days : List Day
  life : Option Int
structure Bak where
  lights : List Int
  bound : Option Int
  goods : List Good
def optD : Option Int → PyData
  | none => .none
  | some i => .int i
def dayD (d : Day) : PyData := .tuple [.int d.want, .int d.loaf, .int d.keep, optD d.fine]
def goodD (g : Good) : PyData := .tuple [.list (g.days.map dayD), optD g.life]
def bakD (b : Bak) : PyData := .tuple [.list (b.lights.map PyData.int), optD b.bound, .list (b.goods.map goodD)]
def tupB (n : Nat) : PyData → Bool
  | .tuple ds => decide (ds.length = n)
  | _ => false
def listB (lo hi : Nat) : PyData → Bool
  | .list ds => decide (lo ≤ ds.length) && decide (ds.length ≤ hi)
  | _ => false
def lightsB : PyData → Bool
  | .list ds => listB 1 40 (.list ds) && ds.all numD
  | _ => false
def boundB : PyData → Bool
  | .none => true
  | .int i => numD (.int i) && decide (1 ≤ i)
  | _ => false
def lifeB : PyData → Bool
  | .none => true
  | .int i => decide (0 ≤ i) && decide (i ≤ 40)
  | _ => false
def noneB : PyData → Bool
  | .none => true
  | _ => false
def dayB : PyData → Bool
  | .tuple [a, b, c, f] => (numD a && numD b && numD c) && (noneB f || numD f)
  | _ => false
def goodFormB (n : Nat) : PyData → Bool
  | .tuple [ds, l] => listB n n ds && lifeB l
  | _ => false
def bakFormB : PyData → Bool
  | .tuple [l, b, g] => lightsB l && (boundB b && listB 1 2 g)
  | _ => false
/-- a good of n days -/
def goodB (n : Nat) : PyData → Bool
  | .tuple [.list ds, l] => decide (ds.length = n) && lifeB l && ds.all dayB
  | _ => false
def bakB : PyData → Bool
  | .tuple [.list ls, b, .list gs] => lightsB (.list ls) && boundB b && listB 1 2 (.list gs) && gs.all (goodB ls.length)
  | _ => false
theorem Th.isNon {K : PySem.W.Frag} {H : Hp} {x : V} {d : PyData} (h : Th K H x d) : decide (x = V.non) = noneB d := by cases h <;> rfl
theorem qb {Q : VK} {H : Hp} {a b : Bool} (e : a = b) (q : Q (.bl b) H) : Q (.bl a) H := by
  rw [e]
  exact q
theorem two {α : Type} {l : List α} (h : l.length = 2) : ∃ a b, l = [a, b] := by
  match l, h with
  | [a, b], _ => exact ⟨a, b, rfl⟩
theorem three {α : Type} {l : List α} (h : l.length = 3) : ∃ a b c, l = [a, b, c] := by
  match l, h with
  | [a, b, c], _ => exact ⟨a, b, c, rfl⟩
theorem four {α : Type} {l : List α} (h : l.length = 4) : ∃ a b c d, l = [a, b, c, d] := by
  match l, h with
  | [a, b, c, d], _ => exact ⟨a, b, c, d, rfl⟩
theorem goodB_inv {n : Nat} {d : PyData} (h : goodB n d = true) : ∃ ds l, d = .tuple [.list ds, l] ∧ ds.length = n ∧ lifeB l = true ∧ ds.all dayB = true := by
  unfold goodB at h
  split at h
  · rename_i ds l
    rw [Bool.and_eq_true, Bool.and_eq_true] at h
    exact ⟨ds, l, rfl, of_decide_eq_true h.1.1, h.1.2, h.2⟩
  · cases h
theorem bakB_inv {d : PyData} (h : bakB d = true) : ∃ ls b gs, d = .tuple [.list ls, b, .list gs] ∧ lightsB (.list ls) = true ∧ boundB b = true ∧ listB 1 2 (.list gs) = true ∧ gs.all (goodB ls.length) = true := by
  unfold bakB at h
  split at h
  · rename_i ls b gs
    rw [Bool.and_eq_true, Bool.and_eq_true, Bool.and_eq_true] at h
    exact ⟨ls, b, gs, rfl, h.1.1.1, h.1.1.2, h.1.2, h.2⟩
  · cases h
/-- a bakery, part by part -/
theorem Th.bak {K : PySem.W.Frag} {H : Hp} {x : V} {b : Bak} (h : Th K H x (bakD b)) : ∃ (a l : Addr) (v : V) (g : Addr) (xl xg : List V), x = .ref a ∧ SqT K H a [.ref l, v, .ref g] ∧ SqL K H l xl ∧ ThAll K H xl (b.lights.map PyData.int) ∧ Th K H v (optD b.bound) ∧ SqL K H g xg ∧ ThAll K H xg (b.goods.map goodD) := by
  cases h with
  | tup ht hta =>
  cases hta with
  | cons t1 hta => cases hta with
  | cons t2 hta => cases hta with
  | cons t3 hta =>
  cases hta
  cases t1 with
  | lst h1 h2 =>
  cases t3 with
  | lst h3 h4 =>
  exact ⟨_, _, _, _, _, _, rfl, ht, h1, h2, t2, h3, h4⟩
def optV : Option Int → V
  | none => .non
  | some i => .int i
theorem Th.opt {K : PySem.W.Frag} {H : Hp} {v : V} {o : Option Int} (h : Th K H v (optD o)) : v = optV o := by
  cases o with
  | none =>
    cases h
    rfl
  | some i =>
    cases h
    rfl
theorem Th.optV {K : PySem.W.Frag} {H : Hp} (o : Option Int) : Th K H (Bk.optV o) (optD o) := by
  cases o with
  | none => exact .non
  | some i => exact .int i
theorem Th.day {K : PySem.W.Frag} {H : Hp} {x : V} {d : Day} (h : Th K H x (dayD d)) : ∃ t, x = .ref t ∧ SqT K H t [.int d.want, .int d.loaf, .int d.keep, Bk.optV d.fine] := by
  cases h with
  | tup ht hta =>
  cases hta with
  | cons t1 hta => cases hta with
  | cons t2 hta => cases hta with
  | cons t3 hta => cases hta with
  | cons t4 hta =>
  cases hta
  cases t1
  cases t2
  cases t3
  rw [t4.opt] at ht
  exact ⟨_, rfl, ht⟩
theorem Th.good {K : PySem.W.Frag} {H : Hp} {x : V} {g : Good} (h : Th K H x (goodD g)) : ∃ t a xs, x = .ref t ∧ SqT K H t [.ref a, Bk.optV g.life] ∧ SqL K H a xs ∧ ThAll K H xs (g.days.map dayD) := by
  cases h with
  | tup ht hta =>
  cases hta with
  | cons t1 hta => cases hta with
  | cons t2 hta =>
  cases hta
  cases t1 with
  | lst h1 h2 =>
  rw [t2.opt] at ht
  exact ⟨_, _, _, rfl, ht, h1, h2⟩
theorem ThAll.drop {K : PySem.W.Frag} {H : Hp} : ∀ {vs : List V} {ds : List PyData} (n : Nat), ThAll K H vs ds → ThAll K H (vs.drop n) (ds.drop n)
  | _, _, 0, h => h
  | _, _, _ + 1, .nil => .nil
  | _, _, n + 1, .cons _ t => ThAll.drop n t
theorem ThAll.take {K : PySem.W.Frag} {H : Hp} : ∀ {vs : List V} {ds : List PyData} (n : Nat), ThAll K H vs ds → ThAll K H (vs.take n) (ds.take n)
  | _, _, 0, _ => .nil
  | _, _, _ + 1, .nil => .nil
  | _, _, n + 1, .cons h t => .cons h (ThAll.take n t)
theorem ThAll.append {K : PySem.W.Frag} {H : Hp} : ∀ {vs ws : List V} {ds es : List PyData}, ThAll K H vs ds → ThAll K H ws es → ThAll K H (vs ++ ws) (ds ++ es)
  | _, _, _, _, .nil, h => h
  | _, _, _, _, .cons h t, h2 => .cons h (ThAll.append t h2)
theorem cutV_nat (xs : List V) (i j : Nat) : cutV xs (some (i : Int)) (some (j : Int)) = (xs.drop i).take (j - i) := by
  unfold cutV
  rw [HT.sIx_nat, HT.sIx_nat]
  by_cases hi : i ≤ xs.length
  · rw [Nat.min_eq_left hi]
    by_cases hj : j ≤ xs.length
    · rw [Nat.min_eq_left hj]
    · rw [Nat.min_eq_right (by omega), List.take_of_length_le (by rw [List.length_drop]; omega), List.take_of_length_le (by rw [List.length_drop]; omega)]
  · rw [show min i xs.length = xs.length by omega, List.drop_of_length_le (Nat.le_refl _), List.drop_of_length_le (show xs.length ≤ i by omega), List.take_nil, List.take_nil]
/-! ### the price of a loaf -/
def sumO : List (Option Int) → Option Int
  | [] => some 0
  | none :: _ => none
  | some x :: r => (sumO r).map (x + ·)
def keepsL (ds : List Day) (i j : Nat) : Int := (((ds.drop i).take (j - i)).map Day.keep).sum
def finesL (ds : List Day) (i j : Nat) : Option Int := sumO (((ds.drop i).take (j - i)).map Day.fine)
/-- a loaf of a good, baked on day j, given for day k -/
def loafP (g : Good) (j k : Nat) : Option Int := match g.days[j]? with
  | none => none
  | some d => if k < j then (finesL g.days k j).map (d.loaf + ·) else match g.life with
    | none => some (d.loaf + keepsL g.days j k)
    | some l => if l < (k : Int) - (j : Int) then none else some (d.loaf + keepsL g.days j k)
theorem sumO_none : ∀ {l : List (Option Int)}, inV .non (l.map optV) = true → sumO l = none
  | [], h => by cases h
  | none :: _, _ => rfl
  | some x :: r, h => by
    have h2 : inV .non (r.map optV) = true := by
      have h1 : (eqV (.int x) .non || inV .non (r.map optV)) = true := h
      simpa [eqV] using h1
    show (sumO r).map (x + ·) = none
    rw [sumO_none h2]
    rfl
theorem sumO_some : ∀ {l : List (Option Int)}, inV .non (l.map optV) = false → ∃ ns : List Int, l.map optV = ns.map V.int ∧ sumO l = some ns.sum
  | [], _ => ⟨[], rfl, rfl⟩
  | none :: r, h => by
    have h1 : (eqV .non .non || inV .non (r.map optV)) = false := h
    simp [eqV] at h1
  | some x :: r, h => by
    have h2 : inV .non (r.map optV) = false := by
      have h1 : (eqV (.int x) .non || inV .non (r.map optV)) = false := h
      simpa [eqV] using h1
    obtain ⟨ns, e1, e2⟩ := sumO_some h2
    refine ⟨x :: ns, ?_, ?_⟩
    · show V.int x :: r.map optV = V.int x :: ns.map V.int
      rw [e1]
    · show (sumO r).map (x + ·) = some (x :: ns).sum
      rw [e2, List.sum_cons]
      rfl
theorem rIn_r {K : PySem.W.Frag} {x : V} {p : Addr} {H : Hp} {Q : VK} : rIn K false x (.ref p) H Q = ∃ xs, (SqL K H p xs ∨ SqT K H p xs) ∧ flatV x = true ∧ xs.all flatV = true ∧ Q (.bl (inV x xs)) H :=
  propext ⟨fun ⟨_, xs, e, h⟩ => by cases e; exact ⟨xs, h⟩, fun ⟨xs, h⟩ => ⟨p, xs, rfl, h⟩⟩
theorem flat_opts (l : List (Option Int)) : (l.map optV).all flatV = true := by
  rw [List.all_eq_true]
  intro x hx
  obtain ⟨o, _, rfl⟩ := List.mem_map.mp hx
  cases o <;> rfl
theorem bakB_len {b : Bak} {g : Good} {i : Nat} (h : bakB (bakD b) = true) (hg : b.goods[i]? = some g) : g.days.length = b.lights.length ∧ b.lights.length ≤ 40 := by
  obtain ⟨ls, bo, gs, e, h1, h2, h3, h4⟩ := bakB_inv h
  unfold bakD at e
  injection e with e
  injection e with e1 e
  injection e with e2 e
  injection e with e3 e
  injection e1 with e1
  injection e3 with e3
  subst e1 e3
  have h5 := List.all_eq_true.mp h4 (goodD g) (List.mem_map.mpr ⟨g, List.mem_of_getElem? hg, rfl⟩)
  obtain ⟨ds, l, e4, e5, _⟩ := goodB_inv h5
  unfold goodD at e4
  injection e4 with e4
  injection e4 with e4 _
  injection e4 with e4
  subst e4
  rw [List.length_map, List.length_map] at e5
  have h6 := (Bool.and_eq_true_iff.mp (Bool.and_eq_true_iff.mp h1).1).2
  have h7 := of_decide_eq_true h6
  rw [List.length_map] at h7
  exact ⟨e5, h7⟩
end Bk

namespace Bk
open PySem PySem.Spec PyProof.Rows L2
/-! ### xs[a:b:c] of a list: some of its items -/
theorem vals_pick {xs : List V} {us : List Value} (r : Vals xs us) : ∀ is : List Nat, Vals (is.filterMap (xs[·]?)) (is.filterMap (us[·]?))
  | [] => .nil
  | i :: is => by
    have ih := vals_pick r is
    cases e : xs[i]? with
    | none =>
      rw [List.filterMap_cons_none e, List.filterMap_cons_none (r.none_of e)]
      exact ih
    | some x =>
      obtain ⟨u, e2, r2⟩ := r.get e
      rw [List.filterMap_cons_some e, List.filterMap_cons_some e2]
      exact .cons r2 ih
/-- the items of xs[l:u:st] -/
def stepV (xs : List V) (l u st : Option Int) : List V := (sliceRange (sliceBounds l u st xs.length).1 (sliceBounds l u st xs.length).2.1 (sliceBounds l u st xs.length).2.2).filterMap (xs[·]?)
theorem pick_length {α : Type} {xs : List α} : ∀ {is : List Nat}, (∀ i ∈ is, i < xs.length) → (is.filterMap (xs[·]?)).length = is.length
  | [], _ => rfl
  | i :: is, h => by
    rw [List.filterMap_cons_some (List.getElem?_eq_getElem (h i List.mem_cons_self)), List.length_cons, List.length_cons, pick_length fun j hj => h j (List.mem_cons_of_mem _ hj)]
theorem stepV_mem {xs : List V} {l u st : Option Int} {y : V} (h : y ∈ stepV xs l u st) : y ∈ xs := by
  obtain ⟨i, _, e⟩ := List.mem_filterMap.mp h
  exact List.mem_of_getElem? e
/-- xs[:0:-1] has one less -/
theorem stepV_back (xs : List V) : (stepV xs none (some 0) (some (-1))).length = xs.length - 1 := by
  unfold stepV
  by_cases h : xs.length = 0
  · have e : xs = [] := List.length_eq_zero_iff.mp h
    subst e
    rfl
  · have eb : sliceBounds none (some 0) (some (-1)) xs.length = ((xs.length : Int) - 1, 0, -1) := by
      simp only [sliceBounds, Option.getD_some, show ¬ ((-1 : Int) > 0) by decide, if_false, show ¬ ((0 : Int) < 0) by decide]
      rw [show max (-1 : Int) (min 0 ((xs.length : Int) - 1)) = 0 by omega]
    rw [eb]
    have er : (sliceRange ((xs.length : Int) - 1) 0 (-1)) = (List.range (xs.length - 1)).map fun (k : Nat) => ((xs.length : Int) - 1 + -1 * (k : Int)).toNat := by
      unfold sliceRange
      simp only [show ¬ ((-1 : Int) > 0) by decide, if_false]
      congr 2
      by_cases h2 : (xs.length : Int) - 1 > 0
      · rw [if_pos h2, show (- -1 : Int) = 1 by decide, Int.ediv_one]
        omega
      · rw [if_neg h2]
        omega
    rw [er, pick_length, List.length_map, List.length_range]
    intro i hi
    obtain ⟨k, hk, rfl⟩ := List.mem_map.mp hi
    have := List.mem_range.mp hk
    omega
def tStep (K : PySem.W.Frag) (te : TE) (tl th ts : TO) : TE := fun σ H Q => te σ H fun x H1 => tl σ H1 fun l H2 => th σ H2 fun u H3 => ts σ H3 fun st H4 => ∃ a xs, x = .ref a ∧ SqL K H4 a xs ∧ st ≠ some 0 ∧
  ∀ p, H4 p = none → Q (.ref p) (upd H4 p (.lst (stepV xs l u st)))
theorem pe_step {X : Cx} {e : Expr} {lo hi st : Option Expr} {te : TE} {tl th ts : TO} {p3 pos : Pos} (he : PE X e te) (hl : PO X lo tl) (hu : PO X hi th) (hst : PO X st ts)
    (hsub : ∀ a i, subscripted (.Slice lo hi st p3) false a i = operate [a, i] (getItem a i) := by intro _ _; with_unfolding_all rfl) : PE X (.Subscript e (.Slice lo hi st p3) pos) (tStep X.K te tl th ts) := by
  refine ⟨fun pins s σ H Q I h => ?_⟩
  refine Subscript_ (thn (he.run pins s σ H _ I h) fun v s1 ⟨x, H1, I1, r1, q1⟩ => ?_)
  refine wpAny_Slice (thn (hl.run pins s1 σ H1 _ I1 q1) fun vl s2 ⟨l, H2, I2, pl, q2⟩ => ?_)
  refine thn (hu.run pins s2 σ H2 _ I2 q2) fun vu s3 ⟨u, H3, I3, pu, q3⟩ => ?_
  refine thn (hst.run pins s3 σ H3 _ I3 q3) fun vs s4 ⟨o, H4, I4, ps, q4⟩ => ?_
  obtain ⟨a, xs, ex, hx, h0, q⟩ := q4
  subst ex
  cases r1
  have I5 : Inv X pins σ H4 { s4 with heap := s4.heap.push { cls := .type "slice", data := .fields #[vl, vu, vs] } } := I4.kept (t' := s4.toks) fun b ob q => Heap.get?_push_of_some _ q
  obtain ⟨its, r, ht, hz⟩ := I5.list hx
  have hlen := r.length
  show wpAny (model X.prog X.w) X.A (subscriptTail e (.Slice lo hi st p3) (.ref a) (.ref s4.heap.objs.size)) (EP X pins σ Q) X.xe { s4 with heap := s4.heap.push { cls := .type "slice", data := .fields #[vl, vu, vs] } }
  refine tail_any (ops := [.ref a, .ref s4.heap.objs.size]) ht.isList.typeIs (PySem.slot_list_getitem.lookup) ?_ (hsub _ _)
  refine wpAny_getItem_list_slice ht.isList (Heap.IsSliceOf.new _ vl vu vs) pl pu ps h0 ?_ (by rw [List.size_toArray]; omega)
  have hpk : slicePick its.toArray l u o = ((sliceRange (sliceBounds l u o xs.length).1 (sliceBounds l u o xs.length).2.1 (sliceBounds l u o xs.length).2.2).filterMap (its[·]?)).toArray := by
    unfold slicePick
    rw [List.size_toArray, ← hlen]
    simp
  have rp : Vals (stepV xs l u o) _ := vals_pick r (sliceRange (sliceBounds l u o xs.length).1 (sliceBounds l u o xs.length).2.1 (sliceBounds l u o xs.length).2.2)
  have hle := slicePick_size_le its.toArray l u o
  rw [hpk] at hle ⊢
  rw [List.size_toArray, List.size_toArray] at hle
  have hl2 : (stepV xs l u o).length ≤ xs.length := by
    rw [rp.length]
    omega
  refine ⟨.ref _, _, I5.laid (t' := s4.toks) (o := .lst (stepV xs l u o)) (fun b ob q => Heap.get?_push_of_some _ q) (Nat.le_refl _) ?_, rfl, q _ (I5.hok.fresh (Nat.le_refl _))⟩
  exact ⟨by omega, _, 0, rp, Heap.get?_push_size _ rfl⟩
theorem tStep_r {K : PySem.W.Frag} {te : TE} {tl th ts : TO} {σ : L2.St} {H : Hp} {Q : VK} : tStep K te tl th ts σ H Q = te σ H fun x H1 => tl σ H1 fun l H2 => th σ H2 fun u H3 => ts σ H3 fun st H4 => ∃ a xs, x = .ref a ∧ SqL K H4 a xs ∧ st ≠ some 0 ∧
  ∀ p, H4 p = none → Q (.ref p) (upd H4 p (.lst (stepV xs l u st))) := rfl
/-! ### data in objects that are tracked as they are -/
mutual
inductive Tk (H : Hp) : V → PyData → Prop
  | non : Tk H .non .none
  | bl (b : Bool) : Tk H (.bl b) (.bool b)
  | int (i : Int) : Tk H (.int i) (.int i)
  | str (x : Str) : Tk H (.str x) (.str x)
  | lst {a : Addr} {xs : List V} {ds : List PyData} : H a = some (.lst xs) → TkAll H xs ds → Tk H (.ref a) (.list ds)
  | tup {a : Addr} {xs : List V} {ds : List PyData} : H a = some (.tup xs) → TkAll H xs ds → Tk H (.ref a) (.tuple ds)
  | dic {a : Addr} : H a = some (.dK []) → Tk H (.ref a) (.dict [])
inductive TkAll (H : Hp) : List V → List PyData → Prop
  | nil : TkAll H [] []
  | cons {v : V} {vs : List V} {d : PyData} {ds : List PyData} : Tk H v d → TkAll H vs ds → TkAll H (v :: vs) (d :: ds)
end
mutual
theorem Tk.th {K : PySem.W.Frag} {H : Hp} : ∀ {v : V} {d : PyData}, Tk H v d → Th K H v d
  | _, _, .non => .non
  | _, _, .bl b => .bl b
  | _, _, .int i => .int i
  | _, _, .str x => .str x
  | _, _, .lst h t => .lst (SqL.of h) (TkAll.th t)
  | _, _, .tup h t => .tup (SqT.of h) (TkAll.th t)
  | _, _, .dic h => .dic h
theorem TkAll.th {K : PySem.W.Frag} {H : Hp} : ∀ {vs : List V} {ds : List PyData}, TkAll H vs ds → ThAll K H vs ds
  | _, _, .nil => .nil
  | _, _, .cons h t => .cons (Tk.th h) (TkAll.th t)
end
mutual
theorem Tk.same {H H' : Hp} (e : Same H H') : ∀ {v : V} {d : PyData}, Tk H v d → Tk H' v d
  | _, _, .non => .non
  | _, _, .bl b => .bl b
  | _, _, .int i => .int i
  | _, _, .str x => .str x
  | _, _, .lst h t => .lst (e _ _ h) (TkAll.same e t)
  | _, _, .tup h t => .tup (e _ _ h) (TkAll.same e t)
  | _, _, .dic h => .dic (e _ _ h)
theorem TkAll.same {H H' : Hp} (e : Same H H') : ∀ {vs : List V} {ds : List PyData}, TkAll H vs ds → TkAll H' vs ds
  | _, _, .nil => .nil
  | _, _, .cons h t => .cons (Tk.same e h) (TkAll.same e t)
end
theorem TkAll.append {H : Hp} : ∀ {vs ws : List V} {ds es : List PyData}, TkAll H vs ds → TkAll H ws es → TkAll H (vs ++ ws) (ds ++ es)
  | _, _, _, _, .nil, h => h
  | _, _, _, _, .cons h t, h2 => .cons h (TkAll.append t h2)
theorem TkAll.take {H : Hp} : ∀ {vs : List V} {ds : List PyData} (n : Nat), TkAll H vs ds → TkAll H (vs.take n) (ds.take n)
  | _, _, 0, _ => .nil
  | _, _, _ + 1, .nil => .nil
  | _, _, n + 1, .cons h t => .cons h (TkAll.take n t)
theorem TkAll.rep {H : Hp} {vs : List V} {ds : List PyData} (h : TkAll H vs ds) : ∀ n : Nat, TkAll H (List.replicate n vs).flatten (List.replicate n ds).flatten
  | 0 => .nil
  | n + 1 => by
    rw [List.replicate_succ, List.replicate_succ, List.flatten_cons, List.flatten_cons]
    exact h.append (TkAll.rep h n)
theorem TkAll.length {H : Hp} : ∀ {vs : List V} {ds : List PyData}, TkAll H vs ds → vs.length = ds.length
  | _, _, .nil => rfl
  | _, _, .cons _ t => by rw [List.length_cons, List.length_cons, TkAll.length t]
theorem TkAll.get {H : Hp} : ∀ {vs : List V} {ds : List PyData} {i : Nat} {v : V}, TkAll H vs ds → vs[i]? = some v → ∃ d, ds[i]? = some d ∧ Tk H v d
  | _, _, _, _, .nil, e => by simp at e
  | _, _, 0, _, .cons h _, e => by
    rw [List.getElem?_cons_zero] at e
    cases e
    exact ⟨_, List.getElem?_cons_zero .., h⟩
  | _, _, i + 1, _, .cons _ t, e => by
    rw [List.getElem?_cons_succ] at e
    obtain ⟨d, h1, h2⟩ := TkAll.get t e
    exact ⟨d, by rw [List.getElem?_cons_succ]; exact h1, h2⟩
theorem TkAll.ints {H : Hp} : ∀ ns : List Int, TkAll H (ns.map V.int) (ns.map PyData.int)
  | [] => .nil
  | n :: r => .cons (.int n) (TkAll.ints r)
theorem Tk.optV {H : Hp} (o : Option Int) : Tk H (Bk.optV o) (optD o) := by
  cases o with
  | none => exact .non
  | some i => exact .int i
/-! ### what is new -/
/-- the part of H' that H doesn't know -/
def newOf (H H' : Hp) : Hp := fun b => if H b = none then H' b else none
theorem newOf_same (H H' : Hp) : Same (newOf H H') H' := fun b o e => by
  unfold newOf at e
  split at e
  · exact e
  · cases e
theorem newOf_at {H H' : Hp} {b : Addr} {o : HO} (h : H b = none) (e : H' b = some o) : newOf H H' b = some o := by
  unfold newOf
  rw [if_pos h]
  exact e
theorem newOf_old {H H' : Hp} {b : Addr} {o : HO} (h : H b = some o) : newOf H H' b = none := by
  unfold newOf
  rw [if_neg (by rw [h]; exact fun z => nomatch z)]
theorem newOf_mono {H H1 H2 : Hp} (s : Same H1 H2) : Same (newOf H H1) (newOf H H2) := fun b o e => by
  unfold newOf at e ⊢
  split at e
  · rename_i h
    rw [if_pos h]
    exact s b o e
  · cases e
theorem newOf_left {H H1 H2 : Hp} (s : Same H H1) : Same (newOf H1 H2) (newOf H H2) := fun b o e => by
  unfold newOf at e ⊢
  split at e
  · rename_i h
    rw [if_pos (s.free h)]
    exact e
  · cases e
/-- the new part, without two places -/
def newBut (H : Hp) (l m : Addr) (H' : Hp) : Hp := fun b => if b = l ∨ b = m then none else newOf H H' b
theorem newBut_mono {H H1 H2 : Hp} {l m : Addr} (s : ∀ b o, b ≠ l → b ≠ m → H1 b = some o → H2 b = some o) : Same (newBut H l m H1) (newBut H l m H2) := fun b o e => by
  unfold newBut at e ⊢
  split at e
  · cases e
  · rename_i h
    rw [if_neg h]
    have h2 := newOf_same _ _ b o e
    unfold newOf at e ⊢
    split at e
    · rename_i h3
      rw [if_pos h3]
      exact s b o (fun z => h (.inl z)) (fun z => h (.inr z)) h2
    · cases e
theorem newBut_same (H : Hp) (l m : Addr) (H' : Hp) : Same (newBut H l m H') (newOf H H') := fun b o e => by
  unfold newBut at e
  split at e
  · cases e
  · exact e
theorem newBut_at {H H' : Hp} {l m b : Addr} {o : HO} (h : H b = none) (h1 : b ≠ l) (h2 : b ≠ m) (e : H' b = some o) : newBut H l m H' b = some o := by
  unfold newBut
  rw [if_neg (fun z => z.elim h1 h2)]
  exact newOf_at h e
theorem gUnl_r {K : PySem.W.Frag} {n : Nat} {t : TGs} {a : Addr} {σ : L2.St} {H : Hp} {Q : L2.St → Hp → Prop} : gUnl K n t (.ref a) σ H Q = ∃ xs, SqL K H a xs ∧ xs.length = n ∧ t xs σ H Q := propext ⟨fun ⟨b, xs, e, h⟩ => by cases e; exact ⟨xs, h⟩, fun ⟨xs, h⟩ => ⟨a, xs, rfl, h⟩⟩
def rInt1 : List V → Hp → VK → Prop := fun xs H Q => (∃ i, xs = [.int i] ∧ Q (.int i) H) ∨ ∃ k, xs = [.bl k] ∧ Q (.int (if k then 1 else 0)) H
theorem call_in1 {X : Cx} : CallR X (.type "int") rInt1 := call_int1
theorem rInt1_b {k : Bool} {H : Hp} {Q : VK} : rInt1 [.bl k] H Q = Q (.int (if k then 1 else 0)) H := by
  refine propext ⟨fun h => ?_, fun h => .inr ⟨k, rfl, h⟩⟩
  rcases h with ⟨i, e, _⟩ | ⟨j, e, q⟩
  · cases e
  · cases e
    exact q
theorem rInt1_i {i : Int} {H : Hp} {Q : VK} : rInt1 [.int i] H Q = Q (.int i) H := by
  refine propext ⟨fun h => ?_, fun h => .inl ⟨i, rfl, h⟩⟩
  rcases h with ⟨j, e, q⟩ | ⟨j, e, _⟩
  · cases e
    exact q
  · cases e
theorem rRep_r {l : Addr} {k : Int} {H : Hp} {Q : VK} : rRep (.ref l) (.int k) H Q = ∃ xs, H l = some (.lst xs) ∧ -(2 ^ 63) ≤ k ∧ k < 2 ^ 63 ∧ xs.length * k.toNat ≤ sizeLine ∧ ∀ p, H p = none → Q (.ref p) (upd H p (.lst (List.replicate k.toNat xs).flatten)) :=
  propext ⟨fun ⟨_, _, xs, e1, e2, h⟩ => by cases e1; cases e2; exact ⟨xs, h⟩, fun ⟨xs, h⟩ => ⟨l, k, xs, rfl, rfl, h⟩⟩
theorem seven {α : Type} {l : List α} (h : l.length = 7) : ∃ a b c d e f g, l = [a, b, c, d, e, f, g] := by
  match l, h with
  | [a, b, c, d, e, f, g], _ => exact ⟨a, b, c, d, e, f, g, rfl⟩
def nDays (u m : Nat) : Nat := max 2 (min u m) - 1
theorem newOf_to {H Hb H5 HF : Hp} (s : Same H Hb) (k : ∀ b o, Hb b = none → H5 b = some o → HF b = some o) : Same (newOf Hb H5) (newOf H HF) := fun b o e => by
  unfold newOf at e
  split at e
  · rename_i h
    exact newOf_at (s.free h) (k b o h e)
  · cases e
theorem bakB_mk {b : Bak} (h1 : 1 ≤ b.lights.length) (h2 : b.lights.length ≤ 40) (h3 : ∀ z ∈ b.lights, numD (.int z) = true) (h4 : boundB (optD b.bound) = true) (h5 : 1 ≤ b.goods.length) (h6 : b.goods.length ≤ 2)
    (h7 : ∀ g ∈ b.goods, g.days.length = b.lights.length ∧ lifeB (optD g.life) = true ∧ ∀ d ∈ g.days, dayB (dayD d) = true) : bakB (bakD b) = true := by
  have e1 : (b.lights.map PyData.int).all numD = true := by
    rw [List.all_eq_true]
    intro x hx
    obtain ⟨z, hz, rfl⟩ := List.mem_map.mp hx
    exact h3 z hz
  have e2 : (b.goods.map goodD).all (goodB (b.lights.map PyData.int).length) = true := by
    rw [List.all_eq_true]
    intro x hx
    obtain ⟨g, hg, rfl⟩ := List.mem_map.mp hx
    obtain ⟨g1, g2, g3⟩ := h7 g hg
    have e3 : (g.days.map dayD).all dayB = true := by
      rw [List.all_eq_true]
      intro y hy
      obtain ⟨d, hd, rfl⟩ := List.mem_map.mp hy
      exact g3 d hd
    simp only [goodD, goodB, e3, g2, List.length_map, g1, decide_true, Bool.and_self]
  rw [List.length_map] at e2
  simp only [bakD, bakB, lightsB, listB, e1, e2, h4, List.length_map, h1, h2, h5, h6, decide_true, Bool.and_self]
theorem ints_of : ∀ {xs : List V}, (∀ x ∈ xs, ∃ c : Int, x = .int c) → ∃ ns : List Int, xs = ns.map V.int
  | [], _ => ⟨[], rfl⟩
  | x :: r, h => by
    obtain ⟨c, rfl⟩ := h x List.mem_cons_self
    obtain ⟨ns, e⟩ := ints_of fun y hy => h y (List.mem_cons_of_mem _ hy)
    exact ⟨c :: ns, by rw [e]; rfl⟩
theorem cutV_upto (xs : List V) (n : Nat) : cutV xs none (some (n : Int)) = xs.take n := by
  unfold cutV
  rw [HT.sIx_nat, HT.sIx_none, List.drop_zero, Nat.sub_zero]
  by_cases h : n ≤ xs.length
  · rw [Nat.min_eq_left h]
  · rw [Nat.min_eq_right (by omega), List.take_of_length_le (Nat.le_refl _), List.take_of_length_le (by omega)]
theorem Tk.opt {H : Hp} {v : V} {o : Option Int} (h : Tk H v (optD o)) : v = Bk.optV o := (h.th (K := [])).opt
/-- a bakery in tracked objects, part by part -/
theorem Tk.bak {H : Hp} {x : V} {b : Bak} (h : Tk H x (bakD b)) : ∃ (a l g : Addr) (xl xg : List V), x = .ref a ∧ H a = some (.tup [.ref l, Bk.optV b.bound, .ref g]) ∧ H l = some (.lst xl) ∧ TkAll H xl (b.lights.map PyData.int) ∧ H g = some (.lst xg) ∧ TkAll H xg (b.goods.map goodD) := by
  cases h with
  | tup ht hta =>
  cases hta with
  | cons t1 hta => cases hta with
  | cons t2 hta => cases hta with
  | cons t3 hta =>
  cases hta
  cases t1 with
  | lst h1 h2 =>
  cases t3 with
  | lst h3 h4 =>
  rw [t2.opt] at ht
  exact ⟨_, _, _, _, _, rfl, ht, h1, h2, h3, h4⟩
theorem Tk.good {H : Hp} {x : V} {g : Good} (h : Tk H x (goodD g)) : ∃ t a xs, x = .ref t ∧ H t = some (.tup [.ref a, Bk.optV g.life]) ∧ H a = some (.lst xs) ∧ TkAll H xs (g.days.map dayD) := by
  cases h with
  | tup ht hta =>
  cases hta with
  | cons t1 hta => cases hta with
  | cons t2 hta =>
  cases hta
  cases t1 with
  | lst h1 h2 =>
  rw [t2.opt] at ht
  exact ⟨_, _, _, rfl, ht, h1, h2⟩
/-! ### a comprehension whose items are new things -/
theorem LcR.build {J : It} {n : Nat} {G : Hp → Prop} {Y : Nat → Hp → V → Hp → Prop} (w : Walk J n G Y) {g : TG} {te : TE} {vs : List Nat} {σ : L2.St} {H H1 : Hp} {D : Addr} {Qd : Hp → Prop} (es : List PyData) (hD : H1 D = none) (hn : es.length = n) (hz : n ≤ 100000)
    (hG : ∀ H, Same H1 H → G H) (hY : ∀ i H x H', Y i H x H' → Same H H')
    (hs : ∀ i x e H0 H', i < n → Same H1 H' → (∃ acc, H' D = some (.lst acc)) → Y i H0 x H' → es[i]? = some e → ∀ R : V → Hp → Prop, (∀ v H4, Same H' H4 → Tk (newBut H D D H4) v e → R v H4) → g x (wipe σ vs) H' fun σ2 H2 => wipe σ2 vs = wipe σ vs ∧ te σ2 H2 R)
    (hd : ∀ H' acc, Same H1 H' → H' D = some (.lst acc) → TkAll (newBut H D D H') acc es → Qd H') : LcR J g tYes te vs σ D H1 Qd := by
  refine LcR.by w (fun i H' => Same H1 H' ∧ ∃ acc, H' D = some (.lst acc) ∧ TkAll (newBut H D D H') acc (es.take i)) ⟨same_upd hD, [], upd_same, .nil⟩ (fun i H _ h => hG H h.1) (fun i x H0 H' hi h y => ?_) (fun H' h => ?_)
  · obtain ⟨s0, acc, ea, ta⟩ := h
    have s := hY _ _ _ _ y
    have e : es[i]? = some (es[i]'(by omega)) := List.getElem?_eq_getElem (by omega)
    refine hs i x _ H0 H' hi (s0.trans s) ⟨acc, s _ _ ea⟩ y e _ fun v H4 s4 tv => ?_
    have e4 := s4 _ _ (s _ _ ea)
    refine ⟨_, e4, ?_, same_mut ((s0.trans s).trans s4) hD, _, upd_same, ?_⟩
    · rw [ta.length, List.length_take]
      exact sz100l (by omega)
    · rw [List.take_add_one, e]
      refine (ta.same (newBut_mono fun b o h1 _ q => ?_)).append (.cons (tv.same (newBut_mono fun b o h1 _ q => ?_)) .nil)
      · rw [upd_ne h1]
        exact s4 _ _ (s _ _ q)
      · rw [upd_ne h1]
        exact q
  · obtain ⟨s0, acc, ea, ta⟩ := h
    rw [← hn, List.take_length] at ta
    exact hd H' acc s0 ea ta
/-! ### while, by the number of its turns -/
def WI (n : Nat) (Pv : Nat → L2.St → Hp → Prop) (m : Nat) (σ : L2.St) (H : Hp) : Prop := ∃ i, m = n - i ∧ i ≤ n ∧ Pv i σ H
def WStep (n : Nat) (Pv : Nat → L2.St → Hp → Prop) (i : Nat) (tb : TS) (D : Ends) (σ : L2.St) (H1 : Hp) : Prop := ∃ N : L2.St → Hp → Prop, (∀ σ' H', N σ' H' → ∃ m', m' < n - i ∧ WI n Pv m' σ' H') ∧ tb { D with nx := N, ct := N, bk := D.nx } σ H1
theorem while_by {c : TT} {tb : TS} {D : Ends} {σ : L2.St} {H : Hp} (n : Nat) (Pv : Nat → L2.St → Hp → Prop) (h0 : Pv 0 σ H) (hs : ∀ i σ H, i ≤ n → Pv i σ H → c σ H fun b H1 => if b = true then WStep n Pv i tb D σ H1 else D.nx σ H1) : tWhile c tb D σ H :=
  ⟨WI n Pv, ⟨n, 0, rfl, Nat.zero_le _, h0⟩, fun m σ H ⟨i, e, hi, p⟩ => by subst e; exact hs i σ H hi p⟩
theorem wstep {n i : Nat} {Pv : Nat → L2.St → Hp → Prop} {tb : TS} {D : Ends} {σ : L2.St} {H1 : Hp} (hi : i < n) (h : tb { D with nx := Pv (i + 1), ct := Pv (i + 1), bk := D.nx } σ H1) : WStep n Pv i tb D σ H1 :=
  ⟨Pv (i + 1), fun _ _ p => ⟨n - (i + 1), by omega, i + 1, rfl, by omega, p⟩, h⟩
end Bk

namespace Bk
open PySem PySem.Spec PyProof.Rows L2
/-! ### prices of loaves that cross -/
theorem sumO_append : ∀ {l m : List (Option Int)} {z : Int}, sumO (l ++ m) = some z → ∃ x y, sumO l = some x ∧ sumO m = some y ∧ x + y = z
  | [], m, z, h => ⟨0, z, rfl, h, Int.zero_add z⟩
  | none :: l, m, z, h => by cases h
  | some a :: l, m, z, h => by
    have h : (sumO (l ++ m)).map (a + ·) = some z := h
    cases e : sumO (l ++ m) with
    | none => rw [e] at h; cases h
    | some b =>
      rw [e] at h
      have h : a + b = z := Option.some.inj h
      obtain ⟨x, y, h1, h2, h3⟩ := sumO_append e
      refine ⟨a + x, y, ?_, h2, by omega⟩
      show (sumO l).map (a + ·) = some (a + x)
      rw [h1]
      rfl
theorem sumO_nonneg : ∀ {l : List (Option Int)} {z : Int}, (∀ o ∈ l, ∀ i, o = some i → 0 ≤ i) → sumO l = some z → 0 ≤ z
  | [], z, _, h => by
    have h : (0 : Int) = z := Option.some.inj h
    omega
  | none :: l, z, _, h => by cases h
  | some a :: l, z, hn, h => by
    have h : (sumO l).map (a + ·) = some z := h
    cases e : sumO l with
    | none => rw [e] at h; cases h
    | some b =>
      rw [e] at h
      have h : a + b = z := Option.some.inj h
      have h1 := sumO_nonneg (fun o ho => hn o (List.mem_cons_of_mem _ ho)) e
      have h2 := hn _ List.mem_cons_self a rfl
      omega
theorem seg_split {α : Type} (l : List α) {i j k : Nat} (h1 : i ≤ j) (h2 : j ≤ k) : (l.drop i).take (k - i) = (l.drop i).take (j - i) ++ (l.drop j).take (k - j) := by
  have e : k - i = (j - i) + (k - j) := by omega
  rw [e, List.take_add, List.drop_drop]
  congr 3
  omega
theorem sum_nonneg' : ∀ {l : List Int}, (∀ x ∈ l, 0 ≤ x) → 0 ≤ l.sum
  | [], _ => by decide
  | a :: r, h => by
    rw [List.sum_cons]
    have h1 := h a List.mem_cons_self
    have h2 := sum_nonneg' fun x hx => h x (List.mem_cons_of_mem _ hx)
    omega
theorem sum_append' : ∀ (l m : List Int), (l ++ m).sum = l.sum + m.sum
  | [], m => by rw [List.nil_append, List.sum_nil]; omega
  | a :: r, m => by rw [List.cons_append, List.sum_cons, List.sum_cons, sum_append' r m]; omega
theorem keepsL_split (ds : List Day) {i j k : Nat} (h1 : i ≤ j) (h2 : j ≤ k) : keepsL ds i k = keepsL ds i j + keepsL ds j k := by
  unfold keepsL
  rw [seg_split ds h1 h2, List.map_append, sum_append']
theorem finesL_split {ds : List Day} {i j k : Nat} {z : Int} (h1 : i ≤ j) (h2 : j ≤ k) (h : finesL ds i k = some z) : ∃ x y, finesL ds i j = some x ∧ finesL ds j k = some y ∧ x + y = z := by
  unfold finesL at h
  rw [seg_split ds h1 h2, List.map_append] at h
  exact sumO_append h
/-- keeps and fines are no less than 0 -/
structure NonNeg (ds : List Day) : Prop where
  keep : ∀ d ∈ ds, 0 ≤ d.keep
  fine : ∀ d ∈ ds, ∀ i, d.fine = some i → 0 ≤ i
theorem seg_mem {α : Type} {l : List α} {i n : Nat} {x : α} (h : x ∈ (l.drop i).take n) : x ∈ l := List.mem_of_mem_drop (List.mem_of_mem_take h)
theorem keepsL_nonneg {ds : List Day} (N : NonNeg ds) (i j : Nat) : 0 ≤ keepsL ds i j := sum_nonneg' fun x hx => by
  obtain ⟨d, hd, rfl⟩ := List.mem_map.mp hx
  exact N.keep d (seg_mem hd)
theorem finesL_nonneg {ds : List Day} (N : NonNeg ds) {i j : Nat} {z : Int} (h : finesL ds i j = some z) : 0 ≤ z := sumO_nonneg (fun o ho i e => by
  obtain ⟨d, hd, rfl⟩ := List.mem_map.mp ho
  exact N.fine d (seg_mem hd) i e) h
/-- what comes to the loaf price -/
def extP (g : Good) (j k : Nat) : Option Int := if k < j then finesL g.days k j else match g.life with
  | none => some (keepsL g.days j k)
  | some l => if l < (k : Int) - (j : Int) then none else some (keepsL g.days j k)
theorem loafP_ext {g : Good} {j k : Nat} {d : Day} (hd : g.days[j]? = some d) : loafP g j k = (extP g j k).map (d.loaf + ·) := by
  unfold loafP extP
  rw [hd]
  dsimp only
  by_cases h : k < j
  · rw [if_pos h, if_pos h]
  · rw [if_neg h, if_neg h]
    cases g.life with
    | none => rfl
    | some l =>
      dsimp only
      by_cases h2 : l < (k : Int) - (j : Int)
      · rw [if_pos h2, if_pos h2]
        rfl
      · rw [if_neg h2, if_neg h2]
        rfl
theorem ext_keep {g : Good} {j k : Nat} (h : j ≤ k) {z : Int} : extP g j k = some z ↔ (∀ l, g.life = some l → (k : Int) - (j : Int) ≤ l) ∧ keepsL g.days j k = z := by
  unfold extP
  rw [if_neg (by omega)]
  cases hl : g.life with
  | none => exact ⟨fun e => ⟨fun l h => (by cases h), Option.some.inj e⟩, fun e => by rw [e.2]⟩
  | some l =>
    dsimp only
    by_cases h2 : l < (k : Int) - (j : Int)
    · rw [if_pos h2]
      exact ⟨fun e => (by cases e), fun e => by have := e.1 l rfl; omega⟩
    · rw [if_neg h2]
      exact ⟨fun e => ⟨fun l' h' => (by cases h'; omega), Option.some.inj e⟩, fun e => by rw [e.2]⟩
theorem ext_fine {g : Good} {j k : Nat} (h : k < j) {z : Int} : extP g j k = some z ↔ finesL g.days k j = some z := by
  unfold extP
  rw [if_pos h]
theorem ext_cross {g : Good} (N : NonNeg g.days) {a c e l : Nat} (hac : a < c) (hel : e < l) {x y : Int} (h1 : extP g a l = some x) (h2 : extP g c e = some y) : ∃ z t, extP g a e = some z ∧ extP g c l = some t ∧ z + t ≤ x + y := by
  by_cases hal : a ≤ l
  · obtain ⟨hlf, hk1⟩ := (ext_keep hal).mp h1
    by_cases hce : c ≤ e
    · -- all ahead
      obtain ⟨_, hk2⟩ := (ext_keep hce).mp h2
      refine ⟨_, _, (ext_keep (by omega)).mpr ⟨fun m hm => by have := hlf m hm; omega, rfl⟩, (ext_keep (by omega)).mpr ⟨fun m hm => by have := hlf m hm; omega, rfl⟩, ?_⟩
      have e1 := keepsL_split g.days (show a ≤ c by omega) hce
      have e2 := keepsL_split g.days (show a ≤ c by omega) (show c ≤ l by omega)
      omega
    · have hf := (ext_fine (show e < c by omega)).mp h2
      by_cases hae : a ≤ e
      · by_cases hcl : c ≤ l
        · refine ⟨_, _, (ext_keep hae).mpr ⟨fun m hm => by have := hlf m hm; omega, rfl⟩, (ext_keep hcl).mpr ⟨fun m hm => by have := hlf m hm; omega, rfl⟩, ?_⟩
          have e1 := keepsL_split g.days hae (show e ≤ l by omega)
          have e2 := keepsL_split g.days (show e ≤ c by omega) hcl
          have n1 := keepsL_nonneg N e c
          have n2 := finesL_nonneg N hf
          omega
        · obtain ⟨u, v, f1, f2, f3⟩ := finesL_split (show e ≤ l by omega) (show l ≤ c by omega) hf
          refine ⟨_, _, (ext_keep hae).mpr ⟨fun m hm => by have := hlf m hm; omega, rfl⟩, (ext_fine (by omega)).mpr f2, ?_⟩
          have e1 := keepsL_split g.days hae (show e ≤ l by omega)
          have n1 := keepsL_nonneg N e l
          have n2 := finesL_nonneg N f1
          omega
      · obtain ⟨u, v, f1, f2, f3⟩ := finesL_split (show e ≤ a by omega) (show a ≤ c by omega) hf
        by_cases hcl : c ≤ l
        · refine ⟨_, _, (ext_fine (by omega)).mpr f1, (ext_keep hcl).mpr ⟨fun m hm => by have := hlf m hm; omega, rfl⟩, ?_⟩
          have e1 := keepsL_split g.days (show a ≤ c by omega) hcl
          have n1 := keepsL_nonneg N a c
          have n2 := finesL_nonneg N f2
          omega
        · obtain ⟨u2, v2, k1, k2, k3⟩ := finesL_split (show e ≤ l by omega) (show l ≤ c by omega) hf
          obtain ⟨u3, v3, m1, m2, m3⟩ := finesL_split (show e ≤ a by omega) hal k1
          have e3 : u = u3 := Option.some.inj (f1.symm.trans m1)
          refine ⟨_, _, (ext_fine (by omega)).mpr f1, (ext_fine (by omega)).mpr k2, ?_⟩
          have n1 := keepsL_nonneg N a l
          have n2 := finesL_nonneg N m2
          omega
  · have hf1 := (ext_fine (show l < a by omega)).mp h1
    have hf2 := (ext_fine (show e < c by omega)).mp h2
    obtain ⟨u, v, f1, f2, f3⟩ := finesL_split (show e ≤ a by omega) (show a ≤ c by omega) hf2
    obtain ⟨u2, v2, k1, k2, k3⟩ := finesL_split (show e ≤ l by omega) (show l ≤ c by omega) hf2
    obtain ⟨u3, v3, m1, m2, m3⟩ := finesL_split (show e ≤ l by omega) (show l ≤ a by omega) f1
    refine ⟨_, _, (ext_fine (by omega)).mpr f1, (ext_fine (by omega)).mpr k2, ?_⟩
    have e1 : u2 = u3 := Option.some.inj (k1.symm.trans m1)
    have e2 : v3 = x := Option.some.inj (m2.symm.trans hf1)
    omega
theorem loaf_cross {g : Good} (N : NonNeg g.days) {a c e l : Nat} (hac : a < c) (hel : e < l) (hc : c < g.days.length) {x y : Int} (h1 : loafP g a l = some x) (h2 : loafP g c e = some y) : ∃ z t, loafP g a e = some z ∧ loafP g c l = some t ∧ z + t ≤ x + y := by
  have da : g.days[a]? = some (g.days[a]'(by omega)) := List.getElem?_eq_getElem (by omega)
  have dc : g.days[c]? = some g.days[c] := List.getElem?_eq_getElem hc
  rw [loafP_ext da] at h1
  rw [loafP_ext dc] at h2
  cases e1 : extP g a l with
  | none => rw [e1] at h1; cases h1
  | some x' =>
    cases e2 : extP g c e with
    | none => rw [e2] at h2; cases h2
    | some y' =>
      rw [e1] at h1
      rw [e2] at h2
      have h1 := Option.some.inj h1
      have h2 := Option.some.inj h2
      obtain ⟨z, t, q1, q2, q3⟩ := ext_cross N hac hel e1 e2
      refine ⟨_, _, by rw [loafP_ext da, q1]; rfl, by rw [loafP_ext dc, q2]; rfl, ?_⟩
      dsimp only at h1 h2 ⊢
      omega
theorem bak_nonneg {b : Bak} {g : Good} {i : Nat} (h : bakB (bakD b) = true) (hg : b.goods[i]? = some g) : NonNeg g.days := by
  obtain ⟨ls, bo, gs, e, h1, h2, h3, h4⟩ := bakB_inv h
  unfold bakD at e
  injection e with e
  injection e with e1 e
  injection e with e2 e
  injection e with e3 e
  injection e3 with e3
  subst e3
  have h5 := List.all_eq_true.mp h4 (goodD g) (List.mem_map.mpr ⟨g, List.mem_of_getElem? hg, rfl⟩)
  obtain ⟨ds, l, e4, e5, _, h6⟩ := goodB_inv h5
  unfold goodD at e4
  injection e4 with e4
  injection e4 with e4 _
  injection e4 with e4
  subst e4
  have key : ∀ d ∈ g.days, dayB (dayD d) = true := fun d hd => List.all_eq_true.mp h6 (dayD d) (List.mem_map.mpr ⟨d, hd, rfl⟩)
  have nn : ∀ i, numD (.int i) = true → 0 ≤ i := fun i h => of_decide_eq_true (Bool.and_eq_true_iff.mp h).1
  refine ⟨fun d hd => ?_, fun d hd i e => ?_⟩
  · have k := key d hd
    simp only [dayD, dayB, Bool.and_eq_true] at k
    exact nn _ k.1.2
  · have k := key d hd
    simp only [dayD, dayB, Bool.and_eq_true, e, optD, noneB, Bool.false_or] at k
    exact nn _ k.2
theorem rNin_r {K : PySem.W.Frag} {x : V} {p : Addr} {H : Hp} {Q : VK} : rIn K true x (.ref p) H Q = ∃ xs, (SqL K H p xs ∨ SqT K H p xs) ∧ flatV x = true ∧ xs.all flatV = true ∧ Q (.bl (!inV x xs)) H :=
  propext ⟨fun ⟨_, xs, e, h⟩ => by cases e; exact ⟨xs, h⟩, fun ⟨xs, h⟩ => ⟨p, xs, rfl, h⟩⟩
end Bk

namespace Bk
open PySem PySem.Spec PyProof.Rows L2
/-! ### defs that are called where no text of a container is being written: repr may be asked there -/
/-- as a def's promise, but only around calls whose guards are none -/
def RunG (P : Program) (w : World) (K : PySem.W.Frag) (mg : Str → Option Value) (base : Heap) (k : Nat) (f : Addr) (fd : FuncData) (ps : List Str) (sp : Sp) : Prop :=
  (∀ vs H Q E, sp vs H Q E → vs.length = ps.length) ∧
  ∀ (A : Around) (outer : List Env) (s : Shared) (H : Hp) (args : Args) (us : List Value) (vs : List V) (Q : VK) (E : XK), A.guards = some [] → Room k A → Env0 P w K mg base A outer s H → BindsTo s fd args (ps.zip us) → Vals vs us → sp vs H Q E →
    codeAny (model P w) A (.call (.ref f) args) (CR CX0 outer P w H s Q E) s
theorem runG_of {P : Program} {w : World} {K : PySem.W.Frag} {mg : Str → Option Value} {base : Heap} {x qual : Str} {st : Stmt} {f : Addr} {fd : FuncData} {N ps : List Str} {k : Nat} {sp : Sp} (F : Fun K x qual st f fd) (S : FnScope N ps (defScope st))
    (len : ∀ vs H Q E, sp vs H Q E → vs.length = ps.length)
    (body : ∀ (cdv : Value) (A : Around) (outer : List Env) (s : Shared) (H : Hp) (vs : List V) (Q : VK) (E : XK), A.guards = some [] → Room k (A.deeper (envOfC qual (defScope st) s.heap.objs.size f cdv)) → sp vs H Q E →
      ∃ t, PSs (cxOf CX0 P w K mg base N qual (defScope st) f cdv A outer s H E).nox (defBody st) t ∧ t { nx := fun _ H' => Q .non H', rt := Q } (L2.start N vs) H) : RunG P w K mg base (k + 1) f fd ps sp := by
  obtain ⟨oc, od, kV, doc, pm, an, cdv, ct, osl, rfl, lk, hcd⟩ := F.ex
  refine ⟨len, fun A outer s H args us vs Q E hA hr e0 hb r hs => ?_⟩
  have up : ∀ b o, base.get? b = some o → s.heap.get? b = some o := fun b o e => (e0.bs b o e).1
  have kin : K.In s.heap := e0.mod.kin.keeps up
  have places : ∀ y ∈ ps.zip us, (defScope st).names.lookup y.1 = some .local ∨ ((defScope st).names.lookup y.1 = some .cell ∧ ((cellsFrom (s.heap.objs.size + 1) (defScope st).names []).lookup y.1).isSome = true) := by
    rintro ⟨n, v⟩ hy
    exact (S.par n (List.of_mem_zip hy).1).elim .inl fun q => .inr ⟨q, PySem.W.cellsFrom_some _ _ _ (.inl q)⟩
  refine codeAny_call_function hr.depth (kin _ _ lk) rfl S.co S.gen rfl (PySem.W.codeRec_of kin hcd) (hb _ _ _ _ (wpAny_newFunctionEnv_cells S.kind places fun env he s1 z => ?_))
  subst he
  refine ⟨(e0.mod.nolimit.keeps up).keeps z.toInCall.keep, codeAny_func ?_⟩
  obtain ⟨t, ht, ht2⟩ := body cdv A outer s H vs Q E hA (hr.deeper _) hs
  have J := inv_start (CX := CX0) (E := E) S hr.hd e0 (len _ _ _ _ hs) r z
  refine wpAny_mono (ht.nox.run [] s1 _ H _ J ht2) (fun fl s' g => ?_) fun _ _ g => g
  cases fl with
  | next =>
    obtain ⟨_, H', J', q⟩ := g
    exact ⟨.non, H', J'.os, J'.bare, J'.base, J'.hok, rfl, q⟩
  | ret u =>
    obtain ⟨v, _, H', J', rv, q⟩ := g
    exact ⟨v, H', J'.os, J'.bare, J'.base, J'.hok, rv, q⟩
  | brk =>
    obtain ⟨_, _, _, q⟩ := g
    exact q.elim
  | cont =>
    obtain ⟨_, _, _, q⟩ := g
    exact q.elim
/-- the law's own call: nothing but the script is tracked -/
theorem law_runG {P : Program} {w : World} {K : PySem.W.Frag} {mg mb : Str → Option Value} {k : Nat} {fa a : Addr} {fd : FuncData} {x : Str} {sp : Sp} {t : Shared} {us : List Value} {ns : List Int} (kin : K.In t.heap) (glob : t.heap.Ns mainGlobals mg) (blt : t.heap.Ns builtinsNs mb)
    (boot : ∀ y : Str, y ≠ "__name__" → mb y = bootBuiltins y) (lim : t.heap.NoLimit) (none_g : t.gens = #[]) (at_a : t.heap.get? a = some { cls := .type "list", data := .seq us.toArray }) (its0 : IntsAre us ns) (few : ns.length ≤ sizeLine) (room : Room k callerA)
    (F : ∀ base : Heap, K.In base → base.Ns mainGlobals mg → RunG P w K mg base k fa fd [x] sp) (binds : ∀ (s : Shared) (u : Value), BindsTo s fd ⟨[u], []⟩ [(x, u)])
    (law : ∀ H : Hp, SqL K H a (ns.map V.int) → sp [.ref a] H (fun v _ => v = .bl true) fun _ _ _ => False) :
    codeAny (model P w) callerA (.call (.ref fa) ⟨[.ref a], []⟩) (fun r s' => r = .ok (.ret (.bool true)) ∧ OldK t.heap s'.heap ∧ s'.os = t.os ∧ AllBare s'.gens) t := by
  have rel0 := vals_ints its0
  have go : ∀ H : Hp, (∀ b o, H b = some o → b = a ∧ K.lookup a = none ∧ ∃ ob ys, o = .frz ob (.lst ys)) → SqL K H a (ns.map V.int) → HOk P w H t.heap →
      codeAny (model P w) callerA (.call (.ref fa) ⟨[.ref a], []⟩) (fun r s' => r = .ok (.ret (.bool true)) ∧ OldK t.heap s'.heap ∧ s'.os = t.os ∧ AllBare s'.gens) t := by
    intro H only seq hok
    have free : ∀ {b : Addr} {o : Obj} {es : Array DictEntry} {n : Nat}, t.heap.get? b = some o → o.data = .dict es n → H b = none := by
      intro b o es n e d
      cases q : H b with
      | none => rfl
      | some z =>
        obtain ⟨rfl, _⟩ := only b z q
        rw [at_a] at e
        cases e
        cases d
    have names : ∀ {b : Addr} {m : Str → Option Value}, t.heap.Ns b m → (hidT t.heap H).Ns b m := by
      rintro b m ⟨o, es, n, e, d, r⟩
      exact ⟨o, es, n, hidT_get e (free e d), d, r⟩
    have kin2 : K.In (hidT t.heap H) := by
      intro b o e
      refine hidT_get (kin b o e) ?_
      cases q : H b with
      | none => rfl
      | some z =>
        obtain ⟨rfl, n, _⟩ := only b z q
        rw [n] at e
        cases e
    obtain ⟨mc, l1, l2⟩ := lim
    have env : Env0 P w K mg (hidT t.heap H) callerA [] t H := by
      refine ⟨rfl, ⟨kin2, names glob, ⟨mb, names blt, boot⟩, ⟨mc, names l1, l2⟩⟩, fun b o e => of_hidT e, Nat.le_of_eq (hidT_size _ _), trivial, fun b hb => ?_, hok, .of_eq none_g⟩
      cases hb
    refine codeAny_mono ((F _ kin2 (names glob)).2 callerA [] t H ⟨[.ref a], []⟩ [.ref a] [.ref a] _ _ rfl room env (binds t (.ref a)) (.cons rfl .nil) (law H seq)) ?_
    intro r s' h
    match r, h with
    | .ok (.ret u), ⟨v, H', os, bare, un, hok', rl, q⟩ =>
      have q : v = .bl true := q
      subst q
      have rl : u = Value.bool true := rl
      subst rl
      refine ⟨rfl, OldK.of_keep fun b o e => ?_, os, bare⟩
      cases z : H b with
      | none => exact un.keep b o e z (fun m => nomatch m) (fun m => nomatch m)
      | some y =>
        obtain ⟨_, _, ob, ys, rfl⟩ := only b y z
        have k1 := (hok b _ z).1
        have k2 := (hok' b _ (un.frzs b ob _ z)).1
        rw [e] at k1
        cases k1
        exact k2
  cases hk : K.lookup a with
  | none =>
    refine go (fun b => if b = a then some (.frz { cls := .type "list", data := .seq us.toArray } (.lst (ns.map V.int))) else none) (fun b o e => ?_) (.inl (.inr ⟨_, if_pos rfl⟩)) (fun b o e => ?_)
    · try dsimp only at e
      split at e
      · rename_i hb
        exact ⟨hb, hk, _, _, (Option.some.inj e).symm⟩
      · cases e
    · try dsimp only at e
      split at e
      · rename_i hb
        subst hb
        cases e
        exact ⟨at_a, by rw [List.length_map]; exact few, us, _, rel0, at_a⟩
      · cases e
  | some o =>
    have e := kin a o hk
    rw [at_a] at e
    cases e
    refine go (fun _ => none) (fun b o e => by cases e) (.inr ⟨_, us.toArray, _, hk, rfl, rfl, rfl, ?_, by simpa using rel0⟩) (fun b o e => by cases e)
    rw [List.size_toArray, its0.length]
    exact few
theorem walk_G {l : PySem.W.OpenLaw} {n k : Nat} {q : Program} {loose : List Str} {XP : (Str → Option Value) → Heap → Prop} {YP : World → Heap → Prop} {d : DefRec} {K : Params → PySem.W.Frag} {sp : World → Sp} {x : Str}
    (most : l.most = some n) (line : n ≤ sizeLine) (nodef : d.params.defaults = []) (room : Room k callerA) (parts : ∀ (w : World) (h : Heap), YP w h → (K w.params).In h)
    (F : ∀ (w : World) (mg : Str → Option Value) (fa : Addr) (h : Heap), (K w.params).In h → h.Ns mainGlobals mg → mg d.name = some (.ref fa) → ∃ fd : FuncData, (∀ (s : Shared) (u : Value), BindsTo s fd ⟨[u], []⟩ [(x, u)]) ∧
        ∀ base : Heap, (K w.params).In base → base.Ns mainGlobals mg → RunG l.prog w (K w.params) mg base k fa fd [x] (sp w))
    (law : ∀ (w : World) (H : Hp) (a : Addr) (ns : List Int), ns.length ≤ n → SqL (K w.params) H a (ns.map V.int) → sp w [.ref a] H (fun v _ => v = .bl true) fun _ _ _ => False) :
    PySem.W.WalkO q loose XP YP l.row.toRowW d [] (fun f vs => PySem.call f vs) := by
  refine Att.attach_call most nodef fun w s0 s1 mg mb fa o pm cd doc a us ns G Y _ _ _ named obj its0 len gens => ?_
  obtain ⟨fd, hb, hF⟩ := F w mg fa _ (parts w _ Y) G.T.g named
  exact law_runG (parts w _ Y) G.T.g G.T.b G.T.builtins G.T.nolimit gens obj its0 (Nat.le_trans len line) room hF hb fun H => law w H a ns len
/-! ### repr of data without dicts -/
mutual
theorem Th.dp {K : PySem.W.Frag} {H : Hp} : ∀ {v : V} {d : PyData}, Th K H v d → d.hasDict = false → Dp K H v d
  | _, _, .non, _ => .non
  | _, _, .bl b, _ => .bl b
  | _, _, .int i, _ => .int i
  | _, _, .str x, _ => .str x
  | _, _, .lst h t, n => .lst h (ThAll.dp t (by simpa only [PyData.hasDict] using n))
  | _, _, .tup h t, n => .tup h (ThAll.dp t (by simpa only [PyData.hasDict] using n))
  | _, _, .dic _, n => by simp only [PyData.hasDict] at n; cases n
theorem ThAll.dp {K : PySem.W.Frag} {H : Hp} : ∀ {vs : List V} {ds : List PyData}, ThAll K H vs ds → PyData.hasDictAll ds = false → DpAll K H vs ds
  | _, _, .nil, _ => .nil
  | _, _, .cons h t, n => by
    simp only [PyData.hasDictAll, Bool.or_eq_false_iff] at n
    exact .cons (Th.dp h n.1) (ThAll.dp t n.2)
end
/-- what may be shown: ints of few figures, not too deep, not too long -/
structure Shows (d : PyData) : Prop where
  nodict : d.hasDict = false
  able : d.showable = true
  deep : d.depth ≤ 60
  short : d.shown.length ≤ sizeLine
def rRepr (K : PySem.W.Frag) : List V → Hp → VK → Prop := fun xs H Q => ∃ x d, xs = [x] ∧ Th K H x d ∧ Shows d ∧ Q (.str d.shown) H
theorem call_repr {X : Cx} (hg : X.A.guards = some []) (hu : X.A.units + 64 < cLine) : CallR X (.builtin "repr") (rRepr X.K) := by
  intro pins s σ H xs us Q I r h
  obtain ⟨x, d, rfl, hx, hd, q⟩ := h
  cases r with
  | cons rx rr =>
  cases rr
  rename_i u
  obtain ⟨as, rd⟩ := Dp.reads I d x u (hx.dp hd.nodict) rx
  have deep := hd.deep
  cases hx with
  | non =>
    cases (show u = Value.none from rx)
    exact PySem.P.repr_of_none ⟨.str (PyData.shown .none), H, I.tok _, ⟨_, rfl⟩, q⟩
  | bl b =>
    cases (show u = Value.bool b from rx)
    exact PySem.P.repr_of_bool ⟨.str (PyData.shown (.bool b)), H, I.tok _, ⟨_, rfl⟩, q⟩
  | int i =>
    obtain ⟨t, rfl⟩ := (show ∃ t, u = Value.int i t from rx)
    have ha : i.natAbs.log2 < 1920 := by
      have := hd.able
      simpa only [PyData.showable, decide_eq_true_eq] using this
    exact PySem.P.repr_of_int ha ⟨.str (PyData.shown (.int i)), H, I.tok _, ⟨_, rfl⟩, q⟩
  | str y =>
    obtain ⟨t, rfl⟩ := (show ∃ t, u = Value.str y t from rx)
    exact PySem.P.repr_of_str ⟨.str (PyData.shown (.str y)), H, I.tok _, ⟨_, rfl⟩, q⟩ hd.short
  | lst h t =>
    rename_i a xs ds
    cases (show u = Value.ref a from rx)
    refine repr_of_reads' rd hd.able (fun z => ?_) hg (by omega) (fun _ _ e => e) (fun h' u tk hk => ⟨.str (PyData.shown (.list ds)), H, I.kept (h' := h') (t' := tk) hk, ⟨_, rfl⟩, q⟩) hd.short
    rw [hd.nodict] at z
    cases z
  | tup h t =>
    rename_i a xs ds
    cases (show u = Value.ref a from rx)
    refine repr_of_reads' rd hd.able (fun z => ?_) hg (by omega) (fun _ _ e => e) (fun h' u tk hk => ⟨.str (PyData.shown (.tuple ds)), H, I.kept (h' := h') (t' := tk) hk, ⟨_, rfl⟩, q⟩) hd.short
    rw [hd.nodict] at z
    cases z
  | dic h =>
    have z := hd.nodict
    simp only [PyData.hasDict] at z
    cases z
theorem rRepr_r {K : PySem.W.Frag} {x : V} {H : Hp} {Q : VK} : rRepr K [x] H Q = ∃ d, Th K H x d ∧ Shows d ∧ Q (.str d.shown) H := propext ⟨fun ⟨y, d, e, h⟩ => by cases e; exact ⟨d, h⟩, fun ⟨d, h⟩ => ⟨x, d, rfl, h⟩⟩
/-! ### data of small numbers -/
mutual
/-- no dict, no text, ints below 10 ** 12 -/
def smB : PyData → Bool
  | .none | .bool _ => true
  | .int i => decide (i.natAbs < 10 ^ 12)
  | .str _ | .dict _ => false
  | .list xs | .tuple xs => smAll xs
def smAll : List PyData → Bool
  | [] => true
  | x :: xs => smB x && smAll xs
end
theorem log12 {n : Nat} (h : n < 10 ^ 12) : n.log2 < 40 := by
  by_cases h0 : n = 0
  · subst h0
    decide
  · exact (Nat.log2_lt h0).mpr (Nat.lt_of_lt_of_le h (by decide))
mutual
theorem sm_facts : ∀ d : PyData, smB d = true → d.hasDict = false ∧ d.showable = true ∧ d.leavesShort 13 = true
  | .none, _ => by simp only [PyData.hasDict, PyData.showable, PyData.leavesShort, and_self]
  | .bool _, _ => by simp only [PyData.hasDict, PyData.showable, PyData.leavesShort, and_self]
  | .int i, h => by
    have h : i.natAbs < 10 ^ 12 := by simpa only [smB, decide_eq_true_eq] using h
    have h1 := log12 h
    have h2 := PyData.shown_int_le h
    simp only [PyData.hasDict, PyData.showable, PyData.leavesShort, decide_eq_true_eq, true_and]
    exact ⟨by omega, h2⟩
  | .str _, h => by simp only [smB] at h; cases h
  | .dict _, h => by simp only [smB] at h; cases h
  | .list xs, h => by
    have h1 := smAll_facts xs (by simpa only [smB] using h)
    simpa only [PyData.hasDict, PyData.showable, PyData.leavesShort] using h1
  | .tuple xs, h => by
    have h1 := smAll_facts xs (by simpa only [smB] using h)
    simpa only [PyData.hasDict, PyData.showable, PyData.leavesShort] using h1
theorem smAll_facts : ∀ ds : List PyData, smAll ds = true → PyData.hasDictAll ds = false ∧ PyData.showableAll ds = true ∧ PyData.leavesShortAll 13 ds = true
  | [], _ => by simp only [PyData.hasDictAll, PyData.showableAll, PyData.leavesShortAll, and_self]
  | x :: xs, h => by
    have h : smB x = true ∧ smAll xs = true := by simpa only [smAll, Bool.and_eq_true] using h
    obtain ⟨a1, a2, a3⟩ := sm_facts x h.1
    obtain ⟨b1, b2, b3⟩ := smAll_facts xs h.2
    simp only [PyData.hasDictAll, PyData.showableAll, PyData.leavesShortAll, a1, a2, a3, b1, b2, b3, Bool.or_self, Bool.and_self, and_self]
end
theorem smAll_of {ds : List PyData} (h : ∀ d ∈ ds, smB d = true) : smAll ds = true := by
  induction ds with
  | nil => simp only [smAll]
  | cons x r ih =>
    simp only [smAll, h x List.mem_cons_self, ih fun d hd => h d (List.mem_cons_of_mem _ hd), Bool.and_self]
theorem weightAll_le {c : Nat} {ds : List PyData} (h : ∀ d ∈ ds, d.weight ≤ c) : PyData.weightAll ds ≤ ds.length * (c + 1) := by
  induction ds with
  | nil => simp only [PyData.weightAll, List.length_nil, Nat.zero_mul, Nat.le_refl]
  | cons x r ih =>
    have h1 := h x List.mem_cons_self
    have h2 := ih fun d hd => h d (List.mem_cons_of_mem _ hd)
    simp only [PyData.weightAll, List.length_cons, Nat.add_mul, Nat.one_mul]
    omega
theorem depthAll_le {c : Nat} {ds : List PyData} (h : ∀ d ∈ ds, d.depth ≤ c) : PyData.depthAll ds ≤ c := by
  induction ds with
  | nil => simp only [PyData.depthAll, Nat.zero_le]
  | cons x r ih =>
    have h1 := h x List.mem_cons_self
    have h2 := ih fun d hd => h d (List.mem_cons_of_mem _ hd)
    simp only [PyData.depthAll]
    omega
theorem shows_of {d : PyData} (h : smB d = true) (hw : d.weight ≤ 1000000) (hd : d.depth ≤ 60) : Shows d := by
  obtain ⟨a, b, c⟩ := sm_facts d h
  exact ⟨a, b, hd, PyData.shown_fits (by decide) (by decide) c (Nat.le_trans hw (by decide))⟩
theorem numD_sm {i : Int} (h : numD (.int i) = true) : i.natAbs < 10 ^ 12 := by
  simp only [numD, Bool.and_eq_true, decide_eq_true_eq] at h
  have : i.natAbs ≤ 1000000000 := by omega
  exact Nat.lt_of_le_of_lt this (by decide)
theorem weight_int {i : Int} (h : i.natAbs < 10 ^ 12) : (PyData.int i).weight ≤ 40 := by
  have := log12 h
  simp only [PyData.weight]
  split <;> omega
theorem opt_small {o : Option Int} (h : noneB (optD o) = true ∨ ∀ i, o = some i → i.natAbs < 10 ^ 12) : smB (optD o) = true ∧ (optD o).weight ≤ 40 ∧ (optD o).depth = 0 := by
  cases o with
  | none => exact ⟨by simp only [optD, smB], by simp only [optD, PyData.weight]; omega, by simp only [optD, PyData.depth]⟩
  | some i =>
    have h : i.natAbs < 10 ^ 12 := by
      rcases h with h | h
      · cases h
      · exact h i rfl
    exact ⟨by simp only [optD, smB, decide_eq_true_eq]; exact h, weight_int h, by simp only [optD, PyData.depth]⟩
theorem day_small {d : Day} (h : dayB (dayD d) = true) : smB (dayD d) = true ∧ (dayD d).weight ≤ 200 ∧ (dayD d).depth ≤ 1 := by
  simp only [dayD, dayB, Bool.and_eq_true] at h
  obtain ⟨⟨⟨h1, h2⟩, h3⟩, h4⟩ := h
  have n1 := numD_sm h1
  have n2 := numD_sm h2
  have n3 := numD_sm h3
  have o := opt_small (o := d.fine) (by
    rcases Bool.or_eq_true_iff.mp h4 with z | z
    · exact .inl z
    · exact .inr fun i e => by rw [e] at z; exact numD_sm z)
  have w1 := weight_int n1
  have w2 := weight_int n2
  have w3 := weight_int n3
  refine ⟨?_, ?_, ?_⟩
  · simp only [dayD, smB, smAll, n1, n2, n3, decide_true, Bool.and_self, Bool.true_and, Bool.and_true]
    exact o.1
  · have o2 := o.2.1
    simp only [dayD, PyData.weight, PyData.weightAll] at w1 w2 w3 o2 ⊢
    omega
  · have o3 := o.2.2
    simp only [dayD, PyData.depth, PyData.depthAll, o3]
    decide
theorem bak_parts {b : Bak} (h : bakB (bakD b) = true) : (1 ≤ b.lights.length ∧ b.lights.length ≤ 40) ∧ (∀ z ∈ b.lights, numD (.int z) = true) ∧ boundB (optD b.bound) = true ∧ (1 ≤ b.goods.length ∧ b.goods.length ≤ 2) ∧
    ∀ g ∈ b.goods, g.days.length = b.lights.length ∧ lifeB (optD g.life) = true ∧ ∀ d ∈ g.days, dayB (dayD d) = true := by
  obtain ⟨ls, bo, gs, e, h1, h2, h3, h4⟩ := bakB_inv h
  unfold bakD at e
  injection e with e
  injection e with e1 e
  injection e with e2 e
  injection e with e3 e
  injection e1 with e1
  injection e3 with e3
  subst e1 e2 e3
  have l1 := Bool.and_eq_true_iff.mp h1
  have l2 := Bool.and_eq_true_iff.mp l1.1
  have l3 := Bool.and_eq_true_iff.mp h3
  have a1 := of_decide_eq_true l2.1
  have a2 := of_decide_eq_true l2.2
  have a3 := of_decide_eq_true l3.1
  have a4 := of_decide_eq_true l3.2
  rw [List.length_map] at a1 a2 a3 a4
  refine ⟨⟨a1, a2⟩, fun z hz => List.all_eq_true.mp l1.2 _ (List.mem_map.mpr ⟨z, hz, rfl⟩), h2, ⟨a3, a4⟩, fun g hg => ?_⟩
  have h5 := List.all_eq_true.mp h4 (goodD g) (List.mem_map.mpr ⟨g, hg, rfl⟩)
  obtain ⟨ds, l, e4, e5, e6, e7⟩ := goodB_inv h5
  unfold goodD at e4
  injection e4 with e4
  injection e4 with e4 e8
  injection e8 with e8 _
  injection e4 with e4
  subst e4 e8
  rw [List.length_map, List.length_map] at e5
  exact ⟨e5, e6, fun d hd => List.all_eq_true.mp e7 _ (List.mem_map.mpr ⟨d, hd, rfl⟩)⟩
theorem good_small {g : Good} {n : Nat} (h : g.days.length = n) (hn : n ≤ 40) (hl : lifeB (optD g.life) = true) (hd : ∀ d ∈ g.days, dayB (dayD d) = true) : smB (goodD g) = true ∧ (goodD g).weight ≤ 9000 ∧ (goodD g).depth ≤ 3 := by
  have o := opt_small (o := g.life) (by
    cases e : g.life with
    | none => exact .inl rfl
    | some i =>
      refine .inr fun j ej => ?_
      rw [e] at hl
      simp only [optD, lifeB, Bool.and_eq_true, decide_eq_true_eq] at hl
      cases ej
      exact Nat.lt_of_le_of_lt (show i.natAbs ≤ 40 by omega) (by decide))
  have hm : ∀ x ∈ g.days.map dayD, smB x = true ∧ x.weight ≤ 200 ∧ x.depth ≤ 1 := fun x hx => by
    obtain ⟨d, h1, rfl⟩ := List.mem_map.mp hx
    exact day_small (hd d h1)
  have w := weightAll_le (c := 200) fun x hx => (hm x hx).2.1
  have dp := depthAll_le (c := 1) fun x hx => (hm x hx).2.2
  rw [List.length_map, h] at w
  refine ⟨?_, ?_, ?_⟩
  · simp only [goodD, smB, smAll, smAll_of fun x hx => (hm x hx).1, o.1, Bool.and_self]
  · have o2 := o.2.1
    have w2 : n * 201 ≤ 40 * 201 := Nat.mul_le_mul_right _ hn
    simp only [goodD, PyData.weight, PyData.weightAll] at o2 ⊢
    omega
  · have o3 := o.2.2
    simp only [goodD, PyData.depth, PyData.depthAll, o3]
    omega
theorem shows_bak {b : Bak} (h : bakB (bakD b) = true) : Shows (bakD b) := by
  obtain ⟨⟨_, h1⟩, h2, h3, ⟨_, h4⟩, h5⟩ := bak_parts h
  have o := opt_small (o := b.bound) (by
    cases e : b.bound with
    | none => exact .inl rfl
    | some i =>
      refine .inr fun j ej => ?_
      rw [e] at h3
      simp only [optD, boundB, Bool.and_eq_true] at h3
      cases ej
      exact numD_sm h3.1)
  have hm : ∀ x ∈ b.goods.map goodD, smB x = true ∧ x.weight ≤ 9000 ∧ x.depth ≤ 3 := fun x hx => by
    obtain ⟨g, hg, rfl⟩ := List.mem_map.mp hx
    obtain ⟨g1, g2, g3⟩ := h5 g hg
    exact good_small g1 h1 g2 g3
  have hl : ∀ x ∈ b.lights.map PyData.int, smB x = true ∧ x.weight ≤ 40 ∧ x.depth ≤ 0 := fun x hx => by
    obtain ⟨z, hz, rfl⟩ := List.mem_map.mp hx
    have n := numD_sm (h2 z hz)
    exact ⟨by simp only [smB, decide_eq_true_eq]; exact n, weight_int n, by simp only [PyData.depth, Nat.le_refl]⟩
  have w1 := weightAll_le (c := 40) fun x hx => (hl x hx).2.1
  have w2 := weightAll_le (c := 9000) fun x hx => (hm x hx).2.1
  have d1 := depthAll_le (c := 0) fun x hx => (hl x hx).2.2
  have d2 := depthAll_le (c := 3) fun x hx => (hm x hx).2.2
  rw [List.length_map] at w1 w2
  have w3 : b.lights.length * 41 ≤ 40 * 41 := Nat.mul_le_mul_right _ h1
  have w4 : b.goods.length * 9001 ≤ 2 * 9001 := Nat.mul_le_mul_right _ h4
  refine shows_of ?_ ?_ ?_
  · simp only [bakD, smB, smAll, smAll_of fun x hx => (hl x hx).1, smAll_of fun x hx => (hm x hx).1, o.1, Bool.and_self]
  · have o2 := o.2.1
    simp only [bakD, PyData.weight, PyData.weightAll] at o2 ⊢
    omega
  · have o3 := o.2.2
    simp only [bakD, PyData.depth, PyData.depthAll, o3]
    omega
end Bk

namespace Bk
open PySem PySem.Spec PyProof.Rows L2
/-! ### ranges as values -/
def rRg1 : List V → Hp → VK → Prop := fun vs H Q => ∃ j, vs = [V.int j] ∧ ∀ p, H p = none → Q (.ref p) (upd H p (.rng 0 j))
def rRg2 : List V → Hp → VK → Prop := fun vs H Q => ∃ i j, vs = [V.int i, V.int j] ∧ ∀ p, H p = none → Q (.ref p) (upd H p (.rng i j))
theorem cr_rng2 {X : Cx} : CallR X (.type "range") rRg2 := cr_range2
theorem cr_rng1 {X : Cx} : CallR X (.type "range") rRg1 := fun pins s σ H vs us Q I r h => by
  obtain ⟨j, rfl, q⟩ := h
  obtain ⟨u, rfl, rj⟩ := vals1 r
  obtain ⟨t, rfl⟩ := rj
  exact call_range_1 ⟨.ref s.heap.objs.size, upd H s.heap.objs.size (.rng 0 j), I.laid (fun b o e => Heap.get?_push_of_some _ e) (Nat.le_refl _) (show ObjOk X.prog X.w _ _ _ (.rng 0 j) from ⟨_, _, _, Heap.get?_push_size _ rfl⟩), rfl, q _ (I.hok.fresh (Nat.le_refl _))⟩
theorem rRg1_i {j : Int} {H : Hp} {Q : VK} : rRg1 [.int j] H Q = ∀ p, H p = none → Q (.ref p) (upd H p (.rng 0 j)) := propext ⟨fun ⟨_, e, h⟩ => by cases e; exact h, fun h => ⟨j, rfl, h⟩⟩
theorem rRg2_i {i j : Int} {H : Hp} {Q : VK} : rRg2 [.int i, .int j] H Q = ∀ p, H p = none → Q (.ref p) (upd H p (.rng i j)) := propext ⟨fun ⟨_, _, e, h⟩ => by cases e; exact h, fun h => ⟨i, j, rfl, h⟩⟩
def rInr : R2 := fun x y H Q => ∃ i a lo hi, x = V.int i ∧ y = V.ref a ∧ H a = some (.rng lo hi) ∧ Q (.bl (decide (lo ≤ i ∧ i < hi))) H
theorem op_inr {X : Cx} : OpR X (compareOp .In) rInr := op_in_rng
theorem rInr_r {i : Int} {a : Addr} {H : Hp} {Q : VK} : rInr (.int i) (.ref a) H Q = ∃ lo hi, H a = some (.rng lo hi) ∧ Q (.bl (decide (lo ≤ i ∧ i < hi))) H := propext ⟨fun ⟨_, _, lo, hi, e1, e2, h⟩ => by cases e1; cases e2; exact ⟨lo, hi, h⟩, fun ⟨lo, hi, h⟩ => ⟨i, a, lo, hi, rfl, rfl, h⟩⟩
theorem ipI_ii {f : Int → Int → Int} {i j : Int} {H : Hp} {Q : VK} : ipI f (.int i) (.int j) H Q = Q (.int (f i j)) H := propext ⟨fun ⟨_, _, e1, e2, h⟩ => by cases e1; cases e2; exact h, fun h => ⟨i, j, rfl, rfl, h⟩⟩
theorem lay_ints : ∀ ns : List Int, PyData.canLayAll0 (ns.map PyData.int) = true
  | [] => by simp only [List.map, PyData.canLayAll0]
  | n :: r => by simp only [List.map, PyData.canLayAll0, PyData.canLay0, lay_ints r, Bool.and_self]
theorem depth_ints : ∀ ns : List Int, PyData.depthAll (ns.map PyData.int) = 0
  | [] => by simp only [List.map, PyData.depthAll]
  | n :: r => by simp only [List.map, PyData.depthAll, PyData.depth, depth_ints r]; decide
theorem shaped_ints (ns : List Int) : SeqAt.shaped (.list (ns.map PyData.int)) = true := by
  simp only [SeqAt.shaped, PyData.canLay0, lay_ints, PyData.depth, depth_ints, Bool.true_and]
  decide
theorem dp_ints {K : PySem.W.Frag} {H : Hp} : ∀ ns : List Int, DpAll K H (ns.map V.int) (ns.map PyData.int)
  | [] => .nil
  | n :: r => .cons (.int n) (dp_ints r)
/-- == of two lists of the same ints -/
theorem eq_ints {K : PySem.W.Frag} {H : Hp} {a b : Addr} {ns : List Int} {Q : VK} (h1 : SqL K H a (ns.map V.int)) (h2 : SqL K H b (ns.map V.int)) (q : Q (.bl true) H) : rEqD K (.ref a) (.ref b) H Q := by
  refine ⟨_, _, .lst h1 (dp_ints ns), .lst h2 (dp_ints ns), shaped_ints ns, shaped_ints ns, ?_⟩
  rw [SeqAt.eqv_refl _ (by simp only [PyData.canLay0, lay_ints])]
  exact q
/-! ### prices of stretches, and reaches -/
def wantP (g : Good) (j k : Nat) : Option Int := match g.days[k]? with
  | none => none
  | some d => if d.want = 0 then some 0 else (loafP g j k).map (d.want * ·)
def stretchP (g : Good) (j f n : Nat) : Option Int := sumO ((List.range n).map fun i => wantP g j (f + i))
theorem stretchP_zero (g : Good) (j f : Nat) : stretchP g j f 0 = some 0 := rfl
theorem sumO_snoc (l : List (Option Int)) (o : Option Int) : sumO (l ++ [o]) = match sumO l, o with
    | some x, some y => some (x + y)
    | _, _ => none := by
  induction l with
  | nil =>
    cases o with
    | none => rfl
    | some y =>
      show some (y + 0) = some (0 + y)
      rw [Int.add_zero, Int.zero_add]
  | cons a r ih =>
    cases a with
    | none => rfl
    | some a =>
      show (sumO (r ++ [o])).map (a + ·) = _
      rw [ih]
      show _ = match (sumO r).map (a + ·), o with
        | some x, some y => some (x + y)
        | _, _ => none
      cases sumO r with
      | none => rfl
      | some x =>
        cases o with
        | none => rfl
        | some y =>
          show some (a + (x + y)) = some (a + x + y)
          rw [Int.add_assoc]
theorem stretchP_succ (g : Good) (j f n : Nat) : stretchP g j f (n + 1) = match stretchP g j f n, wantP g j (f + n) with
    | some x, some y => some (x + y)
    | _, _ => none := by
  unfold stretchP
  rw [List.range_succ, List.map_append]
  exact sumO_snoc _ _
def reachF (g : Good) (k : Nat) : Int := match g.life with
  | none => 0
  | some l => if (k : Int) - l > 0 then (k : Int) - l else 0
/-- last is the last day of the reach -/
structure ReachL (g : Good) (k last : Nat) : Prop where
  le : k ≤ last
  lt : last < g.days.length
  fine : ∃ z, finesL g.days k last = some z
  stop : last + 1 < g.days.length → ∃ d, g.days[last]? = some d ∧ d.fine = none
theorem reach_iff {g : Good} {k last : Nat} (R : ReachL g k last) (hl : ∀ l, g.life = some l → 0 ≤ l) {j : Nat} (hj : j < g.days.length) : loafP g j k ≠ none ↔ reachF g k ≤ (j : Int) ∧ j ≤ last := by
  have dj : g.days[j]? = some g.days[j] := List.getElem?_eq_getElem hj
  rw [loafP_ext dj]
  have e0 : (extP g j k).map (g.days[j].loaf + ·) ≠ none ↔ ∃ z, extP g j k = some z := by
    cases extP g j k with
    | none => exact ⟨fun h => absurd rfl h, fun ⟨z, h⟩ => by cases h⟩
    | some z => exact ⟨fun _ => ⟨z, rfl⟩, fun _ h => by cases h⟩
  rw [e0]
  by_cases hkj : k < j
  · have hF : reachF g k ≤ (j : Int) := by
      unfold reachF
      cases e : g.life with
      | none =>
        dsimp only
        omega
      | some l =>
        have := hl l e
        dsimp only
        split <;> omega
    constructor
    · rintro ⟨z, h⟩
      refine ⟨hF, ?_⟩
      by_cases hle : j ≤ last
      · exact hle
      · exfalso
        obtain ⟨d, hd, hn⟩ := R.stop (by omega)
        have hf := (ext_fine hkj).mp h
        obtain ⟨u, v, _, f2, _⟩ := finesL_split R.le (show last ≤ j by omega) hf
        obtain ⟨u2, v2, f3, _, _⟩ := finesL_split (show last ≤ last + 1 by omega) (show last + 1 ≤ j by omega) f2
        unfold finesL at f3
        rw [show last + 1 - last = 1 by omega] at f3
        obtain ⟨hlt, e⟩ := List.getElem?_eq_some_iff.mp hd
        rw [List.drop_eq_getElem_cons hlt, e] at f3
        have f3 : sumO [d.fine] = some u2 := f3
        rw [hn] at f3
        cases f3
    · rintro ⟨_, hle⟩
      obtain ⟨z, hz⟩ := R.fine
      obtain ⟨u, v, f1, _, _⟩ := finesL_split (show k ≤ j by omega) hle hz
      exact ⟨u, (ext_fine hkj).mpr f1⟩
  · have hjl : j ≤ last := by have := R.le; omega
    constructor
    · rintro ⟨z, h⟩
      refine ⟨?_, hjl⟩
      obtain ⟨h1, _⟩ := (ext_keep (show j ≤ k by omega)).mp h
      unfold reachF
      cases e : g.life with
      | none =>
        dsimp only
        omega
      | some l =>
        have := h1 l e
        dsimp only
        split <;> omega
    · rintro ⟨h1, _⟩
      refine ⟨_, (ext_keep (show j ≤ k by omega)).mpr ⟨fun l e => ?_, rfl⟩⟩
      unfold reachF at h1
      rw [e] at h1
      have := hl l e
      dsimp only at h1
      split at h1 <;> omega
theorem sumO_join' : ∀ {l m : List (Option Int)} {x y : Int}, sumO l = some x → sumO m = some y → sumO (l ++ m) = some (x + y)
  | [], m, x, y, h1, h2 => by
    have h1 : (0 : Int) = x := Option.some.inj h1
    rw [← h1, Int.zero_add]
    exact h2
  | none :: l, m, x, y, h1, h2 => by cases h1
  | some a :: l, m, x, y, h1, h2 => by
    have h1 : (sumO l).map (a + ·) = some x := h1
    cases e : sumO l with
    | none => rw [e] at h1; cases h1
    | some b =>
      rw [e] at h1
      have h1 : a + b = x := Option.some.inj h1
      show (sumO (l ++ m)).map (a + ·) = some (x + y)
      rw [sumO_join' e h2]
      show some (a + (b + y)) = some (x + y)
      rw [← h1, Int.add_assoc]
theorem filter_range {f l : Nat} (p : Nat → Bool) (hp : ∀ j, p j = (decide (f ≤ j) && decide (j ≤ l))) : ∀ n : Nat, (List.range n).filter p = (List.range (min n (l + 1) - f)).map (f + ·)
  | 0 => by rw [show min 0 (l + 1) - f = 0 by omega]; rfl
  | n + 1 => by
    rw [List.range_succ, List.filter_append, filter_range p hp n]
    by_cases h : f ≤ n ∧ n ≤ l
    · have e : p n = true := by rw [hp, Bool.and_eq_true, decide_eq_true_eq, decide_eq_true_eq]; exact h
      rw [List.filter_cons_of_pos e, List.filter_nil, show min (n + 1) (l + 1) - f = (min n (l + 1) - f) + 1 by omega, List.range_succ, List.map_append]
      congr 1
      show [n] = [f + (min n (l + 1) - f)]
      congr 1
      omega
    · have e : ¬ p n = true := by rw [hp, Bool.and_eq_true, decide_eq_true_eq, decide_eq_true_eq]; exact h
      rw [List.filter_cons_of_neg e, List.filter_nil, List.append_nil, show min (n + 1) (l + 1) - f = min n (l + 1) - f by omega]
theorem rgV_nat (f m : Nat) : rgV (f : Int) ((f + m : Nat) : Int) = (((List.range m).map (f + ·)).map fun j => ((j : Nat) : Int)).map V.int := by
  unfold rgV
  rw [show (((f + m : Nat) : Int) - (f : Int)).toNat = m by omega, List.map_map, List.map_map]
  apply List.map_congr_left
  intro i _
  show V.int ((f : Int) + (i : Int)) = V.int ((f + i : Nat) : Int)
  congr 1
theorem reachF_nonneg (g : Good) (k : Nat) : 0 ≤ reachF g k := by
  unfold reachF
  cases g.life with
  | none => exact Int.le_refl _
  | some l =>
    dsimp only
    split <;> omega
theorem reachF_le {g : Good} {k : Nat} (hl : ∀ l, g.life = some l → 0 ≤ l) : reachF g k ≤ (k : Int) := by
  unfold reachF
  cases e : g.life with
  | none =>
    dsimp only
    omega
  | some l =>
    have := hl l e
    dsimp only
    split <;> omega
theorem life_nonneg {g : Good} (h : lifeB (optD g.life) = true) : ∀ l, g.life = some l → 0 ≤ l := fun l e => by
  rw [e] at h
  simp only [optD, lifeB, Bool.and_eq_true, decide_eq_true_eq] at h
  exact h.1
end Bk

namespace Bk
open PySem PySem.Spec PyProof.Rows L2
/-! ### the row of least costs: what it is -/
/-- from the m first days' end back: the least of row f + cost + the prices from f to m -/
def lbo (row : Nat → Int) (w : Nat → Option Int) : Nat → Int → Option Int → Option Int
  | 0, _, least => least
  | m + 1, cost, least => match w m with
    | none => least
    | some p => lbo row w m (cost + p) (some (match least with
      | none => row m + (cost + p)
      | some l => if row m + (cost + p) < l then row m + (cost + p) else l))
def segP (w : Nat → Option Int) (f n : Nat) : Option Int := sumO ((List.range n).map fun i => w (f + i))
theorem segP_zero (w : Nat → Option Int) (f : Nat) : segP w f 0 = some 0 := rfl
theorem segP_succ {w : Nat → Option Int} {f n : Nat} {s : Int} (h : segP w f (n + 1) = some s) : ∃ x y, segP w f n = some x ∧ w (f + n) = some y ∧ s = x + y := by
  unfold segP at h
  rw [List.range_succ, List.map_append] at h
  have h := (sumO_snoc _ _).symm.trans h
  cases e1 : sumO ((List.range n).map fun i => w (f + i)) with
  | none =>
    rw [e1] at h
    cases h
  | some x =>
    rw [e1] at h
    have h : (match some x, w (f + n) with
      | some x, some y => some (x + y)
      | _, _ => none) = some s := h
    cases e2 : w (f + n) with
    | none =>
      rw [e2] at h
      cases h
    | some y =>
      rw [e2] at h
      exact ⟨x, y, e1, rfl, (Option.some.inj h).symm⟩
theorem segP_add {w : Nat → Option Int} {f n : Nat} {x y : Int} (h1 : segP w f n = some x) (h2 : w (f + n) = some y) : segP w f (n + 1) = some (x + y) := by
  unfold segP at h1 ⊢
  rw [List.range_succ, List.map_append]
  refine (sumO_snoc _ _).trans ?_
  rw [h1]
  show (match some x, w (f + n) with
      | some x, some y => some (x + y)
      | _, _ => none) = _
  rw [h2]
theorem lbo_from {row : Nat → Int} {w : Nat → Option Int} : ∀ (m : Nat) (cost : Int) (least : Option Int) (v : Int), lbo row w m cost least = some v → least = some v ∨ ∃ f s, f < m ∧ segP w f (m - f) = some s ∧ v = row f + cost + s
  | 0, cost, least, v, h => .inl h
  | m + 1, cost, least, v, h => by
    unfold lbo at h
    cases hw : w m with
    | none =>
      rw [hw] at h
      exact .inl h
    | some p =>
      rw [hw] at h
      have base : segP w m (m + 1 - m) = some p := by
        rw [show m + 1 - m = 0 + 1 by omega]
        have := segP_add (segP_zero w m) (show w (m + 0) = some p from hw)
        rw [this, Int.zero_add]
      rcases lbo_from m (cost + p) _ v h with e | ⟨f, s, hf, hs, e⟩
      · have e := Option.some.inj e
        cases least with
        | none => exact .inr ⟨m, p, by omega, base, by dsimp only at e; omega⟩
        | some l =>
          dsimp only at e
          split at e
          · exact .inr ⟨m, p, by omega, base, by omega⟩
          · exact .inl (congrArg some e)
      · refine .inr ⟨f, s + p, by omega, ?_, by omega⟩
        rw [show m + 1 - f = (m - f) + 1 by omega]
        exact segP_add hs (by rw [show f + (m - f) = m by omega]; exact hw)
theorem lbo_keep {row : Nat → Int} {w : Nat → Option Int} : ∀ (m : Nat) (cost : Int) (l : Int), ∃ v, lbo row w m cost (some l) = some v ∧ v ≤ l
  | 0, cost, l => ⟨l, rfl, Int.le_refl _⟩
  | m + 1, cost, l => by
    unfold lbo
    cases hw : w m with
    | none => exact ⟨l, rfl, Int.le_refl _⟩
    | some p =>
      obtain ⟨v, h1, h2⟩ := lbo_keep (row := row) (w := w) m (cost + p) (if row m + (cost + p) < l then row m + (cost + p) else l)
      refine ⟨v, h1, ?_⟩
      split at h2 <;> omega
theorem lbo_least {row : Nat → Int} {w : Nat → Option Int} : ∀ (m : Nat) (cost : Int) (least : Option Int) (f : Nat) (s : Int), f < m → segP w f (m - f) = some s → ∃ v, lbo row w m cost least = some v ∧ v ≤ row f + cost + s
  | 0, _, _, f, _, hf, _ => by omega
  | m + 1, cost, least, f, s, hf, hs => by
    rw [show m + 1 - f = (m - f) + 1 by omega] at hs
    obtain ⟨x, y, h1, h2, h3⟩ := segP_succ hs
    rw [show f + (m - f) = m by omega] at h2
    unfold lbo
    rw [h2]
    dsimp only
    by_cases hfm : f < m
    · obtain ⟨v, e1, e2⟩ := lbo_least m (cost + y) (some (match least with
        | none => row m + (cost + y)
        | some l => if row m + (cost + y) < l then row m + (cost + y) else l)) f x hfm h1
      exact ⟨v, e1, by omega⟩
    · have hfm : f = m := by omega
      subst hfm
      rw [Nat.sub_self] at h1
      have h1 : (0 : Int) = x := Option.some.inj h1
      obtain ⟨v, e1, e2⟩ := lbo_keep (row := row) (w := w) f (cost + y) (match least with
        | none => row f + (cost + y)
        | some l => if row f + (cost + y) < l then row f + (cost + y) else l)
      refine ⟨v, e1, ?_⟩
      cases least with
      | none =>
        dsimp only at e2
        omega
      | some l =>
        dsimp only at e2
        split at e2 <;> omega
/-- v is the cost of a choice for the m + 1 first days: a stretch from f on, baked on b, behind the f first days; or nothing wanted on day m -/
def Choice (g : Good) (lights row : Nat → Int) (m : Nat) (v : Int) : Prop := (∃ b f s, b ≤ m ∧ f ≤ m ∧ segP (wantP g b) f (m + 1 - f) = some s ∧ v = row f + lights b + s) ∨ ((∃ d, g.days[m]? = some d ∧ d.want = 0) ∧ v = row m)
structure IsRow (g : Good) (lights row : Nat → Int) (n : Nat) : Prop where
  zero : row 0 = 0
  some : ∀ m, m < n → Choice g lights row m (row (m + 1))
  least : ∀ m, m < n → ∀ v, Choice g lights row m v → row (m + 1) ≤ v
theorem IsRow.ext {g : Good} {lights row row' : Nat → Int} {n : Nat} (h : IsRow g lights row n) (h' : IsRow g lights row' n) : ∀ m, m ≤ n → row m = row' m := by
  intro m
  induction m using Nat.strongRecOn with
  | ind m ih =>
    intro hm
    cases m with
    | zero => rw [h.zero, h'.zero]
    | succ m =>
      have tr : ∀ v, Choice g lights row m v ↔ Choice g lights row' m v := by
        intro v
        have e : ∀ f, f ≤ m → row f = row' f := fun f hf => ih f (by omega) (by omega)
        constructor
        · rintro (⟨b, f, s, h1, h2, h3, h4⟩ | ⟨h1, h2⟩)
          · exact .inl ⟨b, f, s, h1, h2, h3, by rw [← e f h2]; exact h4⟩
          · exact .inr ⟨h1, by rw [← e m (by omega)]; exact h2⟩
        · rintro (⟨b, f, s, h1, h2, h3, h4⟩ | ⟨h1, h2⟩)
          · exact .inl ⟨b, f, s, h1, h2, h3, by rw [e f h2]; exact h4⟩
          · exact .inr ⟨h1, by rw [e m (by omega)]; exact h2⟩
      have a := h.least m (by omega) _ ((tr _).mpr (h'.some m (by omega)))
      have b := h'.least m (by omega) _ ((tr _).mp (h.some m (by omega)))
      omega
/-! ### days added -/
theorem seg_take {α : Type} (l : List α) {i k j : Nat} (h : k ≤ j) : ((l.take j).drop i).take (k - i) = (l.drop i).take (k - i) := by
  rw [List.drop_take, List.take_take]
  congr 1
  omega
theorem loafP_take {g : Good} {j b k : Nat} (hb : b < j) (hk : k < j) : loafP ⟨g.days.take j, g.life⟩ b k = loafP g b k := by
  unfold loafP
  rw [List.getElem?_take_of_lt hb]
  cases g.days[b]? with
  | none => rfl
  | some d =>
    dsimp only
    have e1 : finesL (g.days.take j) k b = finesL g.days k b := by
      unfold finesL
      rw [seg_take g.days (show b ≤ j by omega)]
    have e2 : keepsL (g.days.take j) b k = keepsL g.days b k := by
      unfold keepsL
      rw [seg_take g.days (show k ≤ j by omega)]
    rw [e1, e2]
theorem wantP_take {g : Good} {j b k : Nat} (hb : b < j) (hk : k < j) : wantP ⟨g.days.take j, g.life⟩ b k = wantP g b k := by
  unfold wantP
  rw [loafP_take hb hk]
  dsimp only
  rw [List.getElem?_take_of_lt hk]
theorem segP_take {g : Good} {j b f n : Nat} (hb : b < j) (hn : f + n ≤ j) : segP (wantP ⟨g.days.take j, g.life⟩ b) f n = segP (wantP g b) f n := by
  unfold segP
  congr 1
  apply List.map_congr_left
  intro i hi
  have := List.mem_range.mp hi
  exact wantP_take hb (by omega)
theorem Choice.take {g : Good} {lights row : Nat → Int} {j m : Nat} (hm : m < j) {v : Int} : Choice ⟨g.days.take j, g.life⟩ lights row m v ↔ Choice g lights row m v := by
  have e : ∀ b f, b ≤ m → f ≤ m → segP (wantP ⟨g.days.take j, g.life⟩ b) f (m + 1 - f) = segP (wantP g b) f (m + 1 - f) := fun b f h1 h2 => segP_take (by omega) (by omega)
  have ed : (g.days.take j)[m]? = g.days[m]? := List.getElem?_take_of_lt hm
  constructor
  · rintro (⟨b, f, s, h1, h2, h3, h4⟩ | ⟨⟨d, h1, h1'⟩, h2⟩)
    · exact .inl ⟨b, f, s, h1, h2, by rw [← e b f h1 h2]; exact h3, h4⟩
    · exact .inr ⟨⟨d, by rw [← ed]; exact h1, h1'⟩, h2⟩
  · rintro (⟨b, f, s, h1, h2, h3, h4⟩ | ⟨⟨d, h1, h1'⟩, h2⟩)
    · exact .inl ⟨b, f, s, h1, h2, by rw [e b f h1 h2]; exact h3, h4⟩
    · exact .inr ⟨⟨d, by show (g.days.take j)[m]? = _; rw [ed]; exact h1, h1'⟩, h2⟩
theorem IsRow.take {g : Good} {lights row : Nat → Int} {n j : Nat} (h : IsRow g lights row n) (hj : j ≤ n) : IsRow ⟨g.days.take j, g.life⟩ lights row j :=
  ⟨h.zero, fun m hm => (Choice.take hm).mpr (h.some m (by omega)), fun m hm v hv => h.least m (by omega) v ((Choice.take hm).mp hv)⟩
theorem wantP_own {g : Good} {m : Nat} {d : Day} (hd : g.days[m]? = some d) (hl : ∀ l, g.life = some l → 0 ≤ l) : wantP g m m = some (d.want * d.loaf) := by
  unfold wantP
  rw [hd]
  dsimp only
  by_cases hw : d.want = 0
  · rw [if_pos hw, hw, Int.zero_mul]
  · rw [if_neg hw, loafP_ext hd, (ext_keep (Nat.le_refl m)).mpr ⟨fun l e => by have := hl l e; omega, rfl⟩]
    show some (d.want * (d.loaf + keepsL g.days m m)) = _
    have e : keepsL g.days m m = 0 := by unfold keepsL; rw [Nat.sub_self]; rfl
    rw [e, Int.add_zero]
theorem own_choice {g : Good} {lights row : Nat → Int} {m : Nat} {d : Day} (hd : g.days[m]? = some d) (hl : ∀ l, g.life = some l → 0 ≤ l) : Choice g lights row m (row m + lights m + d.want * d.loaf) := by
  refine .inl ⟨m, m, _, Nat.le_refl _, Nat.le_refl _, ?_, rfl⟩
  rw [show m + 1 - m = 0 + 1 by omega]
  have := segP_add (segP_zero (wantP g m) m) (show wantP g m (m + 0) = some (d.want * d.loaf) from wantP_own hd hl)
  rw [this, Int.zero_add]
theorem Choice.congr {g : Good} {lights row row' : Nat → Int} {m : Nat} {v : Int} (e : ∀ f, f ≤ m → row f = row' f) (h : Choice g lights row m v) : Choice g lights row' m v := by
  rcases h with ⟨b, f, s, h1, h2, h3, h4⟩ | ⟨h1, h2⟩
  · exact .inl ⟨b, f, s, h1, h2, h3, by rw [← e f h2]; exact h4⟩
  · exact .inr ⟨h1, by rw [← e m (Nat.le_refl m)]; exact h2⟩
def rowF (rs : List Int) (i : Nat) : Int := rs.getD i 0
theorem rowF_snoc {rs : List Int} {v : Int} {f : Nat} (h : f < rs.length) : rowF (rs ++ [v]) f = rowF rs f := by
  unfold rowF
  rw [List.getD_eq_getElem?_getD, List.getD_eq_getElem?_getD, List.getElem?_append_left h]
theorem rowF_last {rs : List Int} {v : Int} {n : Nat} (h : rs.length = n) : rowF (rs ++ [v]) n = v := by
  unfold rowF
  rw [List.getD_eq_getElem?_getD, List.getElem?_append_right (by omega), h, Nat.sub_self]
  rfl
theorem rowF_get {rs : List Int} {f : Nat} (h : f < rs.length) : (rs.map V.int)[f]? = some (.int (rowF rs f)) := by
  unfold rowF
  rw [List.getElem?_map, List.getD_eq_getElem?_getD, List.getElem?_eq_getElem h]
  rfl
theorem IsRow.snoc {g : Good} {lights : Nat → Int} {rs : List Int} {n : Nat} {v : Int} (h : IsRow g lights (rowF rs) n) (hl : rs.length = n + 1) (hc : Choice g lights (rowF rs) n v) (hm : ∀ u, Choice g lights (rowF rs) n u → v ≤ u) : IsRow g lights (rowF (rs ++ [v])) (n + 1) := by
  have e : ∀ f, f ≤ n → rowF rs f = rowF (rs ++ [v]) f := fun f hf => (rowF_snoc (by omega)).symm
  have e' : ∀ f, f ≤ n → rowF (rs ++ [v]) f = rowF rs f := fun f hf => rowF_snoc (by omega)
  refine ⟨by rw [e' 0 (by omega)]; exact h.zero, fun m hmn => ?_, fun m hmn u hu => ?_⟩
  · by_cases hlt : m < n
    · rw [e' (m + 1) (by omega)]
      exact (h.some m hlt).congr fun f hf => e f (by omega)
    · have : m = n := by omega
      subst this
      rw [rowF_last hl]
      exact hc.congr e
  · by_cases hlt : m < n
    · rw [e' (m + 1) (by omega)]
      exact h.least m hlt u (hu.congr fun f hf => e' f (by omega))
    · have : m = n := by omega
      subst this
      rw [rowF_last hl]
      exact hm u (hu.congr e')
theorem IsRow.init (g : Good) (lights : Nat → Int) : IsRow g lights (rowF [0]) 0 := ⟨rfl, fun m h => by omega, fun m h => by omega⟩
/-! ### the least of the costs of each day of baking -/
def lbos (row lights : Nat → Int) (w : Nat → Nat → Option Int) (m c : Nat) : List (Option Int) := (List.range c).map fun b => lbo row (w b) (m + 1) (lights b) none
/-- a last stretch of the first m + 1 days, baked on one of the first c days -/
def ChC (row lights : Nat → Int) (w : Nat → Nat → Option Int) (c m : Nat) (v : Int) : Prop := ∃ b f s, b < c ∧ f ≤ m ∧ segP (w b) f (m + 1 - f) = some s ∧ v = row f + lights b + s
theorem lbos_mem {row lights : Nat → Int} {w : Nat → Nat → Option Int} {m c : Nat} {v : Int} (h : v ∈ (lbos row lights w m c).filterMap id) : ChC row lights w c m v := by
  obtain ⟨o, ho, e⟩ := List.mem_filterMap.mp h
  have e : o = some v := e
  subst e
  obtain ⟨b, hb, e⟩ := List.mem_map.mp ho
  have hb := List.mem_range.mp hb
  rcases lbo_from _ _ _ _ e with z | ⟨f, s, hf, hs, hv⟩
  · cases z
  · exact ⟨b, f, s, by omega, by omega, hs, hv⟩
theorem lbos_least {row lights : Nat → Int} {w : Nat → Nat → Option Int} {m c : Nat} {u : Int} (h : ChC row lights w c m u) : ∃ v, v ∈ (lbos row lights w m c).filterMap id ∧ v ≤ u := by
  obtain ⟨b, f, s, hb, hf, hs, hu⟩ := h
  obtain ⟨v, h1, h2⟩ := lbo_least (row := row) (w := w b) (m + 1) (lights b) none f s (by omega) hs
  exact ⟨v, List.mem_filterMap.mpr ⟨some v, List.mem_map.mpr ⟨b, List.mem_range.mpr (by omega), h1⟩, rfl⟩, by omega⟩
theorem own_chC {g : Good} {lights row : Nat → Int} {c m : Nat} {d : Day} (hc : m < c) (hd : g.days[m]? = some d) (hl : ∀ l, g.life = some l → 0 ≤ l) : ChC row lights (wantP g) c m (row m + lights m + d.want * d.loaf) := by
  refine ⟨m, m, _, hc, Nat.le_refl _, ?_, rfl⟩
  rw [show m + 1 - m = 0 + 1 by omega]
  have := segP_add (segP_zero (wantP g m) m) (show wantP g m (m + 0) = some (d.want * d.loaf) from wantP_own hd hl)
  rw [this, Int.zero_add]
theorem chC_choice {g : Good} {lights row : Nat → Int} {m : Nat} {v : Int} (h : ChC row lights (wantP g) (m + 1) m v) : Choice g lights row m v := by
  obtain ⟨b, f, s, hb, hf, hs, hv⟩ := h
  exact .inl ⟨b, f, s, by omega, hf, hs, hv⟩
theorem choice_chC {g : Good} {lights row : Nat → Int} {m : Nat} {v : Int} (h : Choice g lights row m v) : ChC row lights (wantP g) (m + 1) m v ∨ v = row m := by
  rcases h with ⟨b, f, s, hb, hf, hs, hv⟩ | ⟨_, h⟩
  · exact .inl ⟨b, f, s, by omega, hf, hs, hv⟩
  · exact .inr h
theorem choice_not {g : Good} {lights row : Nat → Int} {m : Nat} {d : Day} (hd : g.days[m]? = some d) (hw : d.want ≠ 0) {v : Int} (h : Choice g lights row m v) : ChC row lights (wantP g) (m + 1) m v := by
  rcases h with ⟨b, f, s, hb, hf, hs, hv⟩ | ⟨⟨d', h1, h2⟩, _⟩
  · exact ⟨b, f, s, by omega, hf, hs, hv⟩
  · rw [hd] at h1
    cases h1
    exact absurd h2 hw
end Bk

namespace Bk
open PySem PySem.Spec PyProof.Rows L2
theorem rMin_r {K : PySem.W.Frag} {p : Addr} {H : Hp} {Q : VK} : rMin K [.ref p] H Q = ∃ ns : List Int, SqL K H p (ns.map V.int) ∧ 0 < ns.length ∧ ∀ m, m ∈ ns → (∀ y, y ∈ ns → m ≤ y) → Q (.int m) H := propext ⟨fun ⟨a, bs, e, h⟩ => by cases e; exact ⟨bs, h⟩, fun ⟨bs, h⟩ => ⟨p, bs, rfl, h⟩⟩
def lcScope (d : Scope) (l : List Stmt) (i : Nat) : Scope := match l[i]? with
  | some (.Assign _ (.ListComp _ _ sc _) _) => sc
  | _ => d
/-- a comprehension that leaves the Nones out -/
theorem LcR.opts {K : PySem.W.Frag} {a : Addr} {te : TE} {tt : TT} {g : TG} {vs : List Nat} {σ : L2.St} {H1 : Hp} {D : Addr} {Qd : Hp → Prop} (os : List (Option Int)) (hD : H1 D = none) (hl : SqL K H1 a (os.map optV)) (hz : os.length ≤ 1000)
    (hs : ∀ (o : Option Int) (H : Hp) (R : Bool → Hp → (V → Hp → Prop) → Prop), True → ∀ (N : Hp → Prop) (M : V → Hp → Prop), (o = none → N H) → (∀ z, o = some z → M (.int z) H) → g (optV o) (wipe σ vs) H fun σ2 H2 => wipe σ2 vs = wipe σ vs ∧ tt σ2 H2 fun b H3 => if b = true then te σ2 H3 M else N H3)
    (hd : ∀ H, Same H1 H → H D = some (.lst ((os.filterMap id).map V.int)) → Qd H) : LcR (Itl K a) g tt te vs σ D H1 Qd := by
  have e0 : (os.map optV).length = os.length := List.length_map ..
  refine LcR.by (walk_list (xs := os.map optV)) (fun i H => Same H1 H ∧ H D = some (.lst (((os.take i).filterMap id).map V.int))) ⟨same_upd hD, by rw [upd_same]; rfl⟩ (fun i H _ h => h.1.seq hl) (fun i x H H' hi h y => ?_) (fun H h => hd H h.1 ?_)
  · obtain ⟨rfl, hx⟩ := y
    rw [List.getElem?_map] at hx
    obtain ⟨s, e⟩ := h
    cases ho : os[i]? with
    | none => rw [ho] at hx; cases hx
    | some o =>
      rw [ho] at hx
      cases hx
      refine hs o _ (fun _ _ _ => True) trivial _ _ (fun hn => ⟨s, ?_⟩) (fun z hz' => ⟨_, e, ?_, same_mut s hD, ?_⟩)
      · rw [e, List.take_add_one, ho, hn]
        simp
      · have h1 : ((os.take i).filterMap id).length ≤ (os.take i).length := List.length_filterMap_le ..
        rw [List.length_take] at h1
        rw [List.length_map]
        exact sz100l (by omega)
      · rw [upd_same, List.take_add_one, ho, hz']
        simp
  · rw [e0, List.take_length] at h
    exact h.2
theorem ThAll.intsV {K : PySem.W.Frag} {H : Hp} : ∀ {xs : List V} {ns : List Int}, ThAll K H xs (ns.map PyData.int) → xs = ns.map V.int
  | _, [], .nil => rfl
  | _, n :: r, .cons (.int _) t => by rw [ThAll.intsV t]; rfl
theorem life_ok {g : Good} (h : lifeB (optD g.life) = true) : ∀ l, g.life = some l → 0 ≤ l := by
  intro l e
  rw [e] at h
  simp only [optD, lifeB, Bool.and_eq_true, decide_eq_true_eq] at h
  exact h.1
theorem rgV_zero (m : Nat) : rgV 0 (m : Int) = (List.range m).map fun j : Nat => V.int (j : Int) := by
  unfold rgV
  rw [show ((m : Int) - 0).toNat = m by omega]
  apply List.map_congr_left
  intro i _
  rw [Int.zero_add]
end Bk

namespace Bk
open PySem PySem.Spec PyProof.Rows L2
/-! ### rows rise where nothing may wait -/
structure NonNegW (ds : List Day) : Prop where
  nn : NonNeg ds
  want : ∀ d ∈ ds, 0 ≤ d.want
  loaf : ∀ d ∈ ds, 0 ≤ d.loaf
theorem nonNegW_of {ds : List Day} (h : ∀ d ∈ ds, dayB (dayD d) = true) : NonNegW ds := by
  have num : ∀ i : Int, numD (.int i) = true → 0 ≤ i := fun i h => by
    simp only [numD, Bool.and_eq_true, decide_eq_true_eq] at h
    exact h.1
  have k : ∀ d ∈ ds, (numD (.int d.want) = true ∧ numD (.int d.loaf) = true) ∧ numD (.int d.keep) = true ∧ ∀ i, d.fine = some i → numD (.int i) = true := by
    intro d hd
    have k := h d hd
    simp only [dayD, dayB, Bool.and_eq_true] at k
    refine ⟨k.1.1, k.1.2, fun i e => ?_⟩
    have k2 := k.2
    rw [e] at k2
    simpa [optD, noneB] using k2
  exact ⟨⟨fun d hd => num _ (k d hd).2.1, fun d hd i e => num _ ((k d hd).2.2 i e)⟩, fun d hd => num _ (k d hd).1.1, fun d hd => num _ (k d hd).1.2⟩
theorem loafP_nonneg {g : Good} (N : NonNegW g.days) {b k : Nat} {z : Int} (h : loafP g b k = some z) : 0 ≤ z := by
  cases hd : g.days[b]? with
  | none =>
    unfold loafP at h
    rw [hd] at h
    cases h
  | some d =>
    rw [loafP_ext hd] at h
    have h0 := N.loaf d (List.mem_of_getElem? hd)
    cases he : extP g b k with
    | none => rw [he] at h; cases h
    | some e =>
      rw [he] at h
      have h : d.loaf + e = z := Option.some.inj h
      have : 0 ≤ e := by
        by_cases hkb : k < b
        · exact finesL_nonneg N.nn ((ext_fine hkb).mp he)
        · rw [← ((ext_keep (by omega)).mp he).2]
          exact keepsL_nonneg N.nn _ _
      omega
theorem wantP_nonneg {g : Good} (N : NonNegW g.days) {b k : Nat} {z : Int} (h : wantP g b k = some z) : 0 ≤ z := by
  unfold wantP at h
  cases hd : g.days[k]? with
  | none => rw [hd] at h; cases h
  | some d =>
    rw [hd] at h
    dsimp only at h
    split at h
    · have h : (0 : Int) = z := Option.some.inj h
      omega
    · cases hp : loafP g b k with
      | none => rw [hp] at h; cases h
      | some y =>
        rw [hp] at h
        have h : d.want * y = z := Option.some.inj h
        rw [← h]
        exact Int.mul_nonneg (N.want d (List.mem_of_getElem? hd)) (loafP_nonneg N hp)
theorem wantP_late {g : Good} (nf : ∀ d ∈ g.days, d.fine = none) {b k : Nat} (hk : k < b) {z : Int} (h : wantP g b k = some z) : ∃ d, g.days[k]? = some d ∧ d.want = 0 := by
  unfold wantP at h
  cases hd : g.days[k]? with
  | none => rw [hd] at h; cases h
  | some d =>
    rw [hd] at h
    dsimp only at h
    split at h
    · exact ⟨d, rfl, by assumption⟩
    · exfalso
      cases hp : loafP g b k with
      | none => rw [hp] at h; cases h
      | some y =>
        cases hb : g.days[b]? with
        | none =>
          unfold loafP at hp
          rw [hb] at hp
          cases hp
        | some d' =>
          rw [loafP_ext hb] at hp
          cases he : extP g b k with
          | none => rw [he] at hp; cases hp
          | some e =>
            have hf := (ext_fine hk).mp he
            unfold finesL at hf
            obtain ⟨hlt, e1⟩ := List.getElem?_eq_some_iff.mp hd
            rw [List.drop_eq_getElem_cons hlt, e1, show b - k = (b - k - 1) + 1 by omega] at hf
            have hf : sumO (d.fine :: ((g.days.drop (k + 1)).take (b - k - 1)).map Day.fine) = some e := hf
            rw [nf d (List.mem_of_getElem? hd)] at hf
            cases hf
theorem segP_all {w : Nat → Option Int} {f : Nat} : ∀ {n : Nat} {s : Int}, segP w f n = some s → ∀ i, i < n → ∃ z, w (f + i) = some z
  | 0, _, _, i, hi => by omega
  | n + 1, s, h, i, hi => by
    obtain ⟨x, y, h1, h2, _⟩ := segP_succ h
    by_cases e : i < n
    · exact segP_all h1 i e
    · have : i = n := by omega
      subst this
      exact ⟨y, h2⟩
theorem segP_nonneg {w : Nat → Option Int} {f : Nat} (nn : ∀ k z, w k = some z → 0 ≤ z) : ∀ {n : Nat} {s : Int}, segP w f n = some s → 0 ≤ s
  | 0, s, h => by
    have : (0 : Int) = s := Option.some.inj h
    omega
  | n + 1, s, h => by
    obtain ⟨x, y, h1, h2, h3⟩ := segP_succ h
    have := segP_nonneg nn h1
    have := nn _ _ h2
    omega
theorem row_flat {g : Good} {lights row : Nat → Int} {n : Nat} (h : IsRow g lights row n) {f : Nat} : ∀ m, f ≤ m → m ≤ n → (∀ k, f ≤ k → k < m → ∃ d, g.days[k]? = some d ∧ d.want = 0) → row m ≤ row f
  | 0, h1, _, _ => by rw [show f = 0 by omega]; exact Int.le_refl _
  | m + 1, h1, h2, hz => by
    by_cases e : f = m + 1
    · rw [e]; exact Int.le_refl _
    · have a := row_flat h m (by omega) (by omega) fun k k1 k2 => hz k k1 (by omega)
      have b := h.least m (by omega) _ (.inr ⟨hz m (by omega) (by omega), rfl⟩)
      omega
theorem row_up {g : Good} {lights row : Nat → Int} {n : Nat} (h : IsRow g lights row n) (hl : ∀ b, 0 ≤ lights b) (N : NonNegW g.days) (nf : ∀ d ∈ g.days, d.fine = none) {m : Nat} (hm : m < n) : row m ≤ row (m + 1) := by
  rcases h.some m hm with ⟨b, f, s, hb, hf, hs, hv⟩ | ⟨_, hv⟩
  · have lb := hl b
    have sn : 0 ≤ s := segP_nonneg (fun k z e => wantP_nonneg N e) hs
    by_cases e : f = m
    · subst e
      omega
    · rw [show m + 1 - f = (m - f) + 1 by omega] at hs
      obtain ⟨x, y, h1, h2, h3⟩ := segP_succ hs
      have yn := wantP_nonneg N h2
      by_cases eb : b < m
      · have := h.least (m - 1) (by omega) (row f + lights b + x) (.inl ⟨b, f, x, by omega, by omega, by rw [show m - 1 + 1 - f = m - f by omega]; exact h1, rfl⟩)
        rw [show m - 1 + 1 = m by omega] at this
        omega
      · have eb : b = m := by omega
        subst eb
        have := row_flat h b (f := f) (by omega) (by omega) fun k k1 k2 => by
          obtain ⟨z, hz⟩ := segP_all h1 (k - f) (by omega)
          rw [show f + (k - f) = k by omega] at hz
          exact wantP_late nf k2 hz
        omega
  · omega
theorem rowF_nonneg {ls : List Int} (h : ∀ z ∈ ls, 0 ≤ z) (b : Nat) : 0 ≤ rowF ls b := by
  unfold rowF
  rw [List.getD_eq_getElem?_getD]
  cases e : ls[b]? with
  | none => exact Int.le_refl 0
  | some z => exact h z (List.mem_of_getElem? e)
/-! ### lists of days, compared -/
theorem lay_day (d : Day) : PyData.canLay0 (dayD d) = true ∧ (dayD d).depth ≤ 1 ∧ (dayD d).hasDict = false := by
  unfold dayD
  cases d.fine <;> simp [optD, PyData.canLay0, PyData.canLayAll0, PyData.depth, PyData.depthAll, PyData.hasDict, PyData.hasDictAll]
theorem lay_days : ∀ ds : List Day, PyData.canLayAll0 (ds.map dayD) = true ∧ PyData.hasDictAll (ds.map dayD) = false
  | [] => by simp [PyData.canLayAll0, PyData.hasDictAll]
  | d :: r => by
    obtain ⟨h1, _, h3⟩ := lay_day d
    obtain ⟨k1, k2⟩ := lay_days r
    simp only [List.map, PyData.canLayAll0, PyData.hasDictAll, h1, h3, k1, k2, Bool.and_self, Bool.or_self, and_self]
theorem shaped_days (ds : List Day) : SeqAt.shaped (.list (ds.map dayD)) = true := by
  have h : PyData.depthAll (ds.map dayD) ≤ 1 := depthAll_le fun x hx => by
    obtain ⟨d, _, rfl⟩ := List.mem_map.mp hx
    exact (lay_day d).2.1
  simp only [SeqAt.shaped, PyData.canLay0, (lay_days ds).1, PyData.depth, Bool.true_and]
  exact decide_eq_true (Nat.le_trans (Nat.add_le_add_right h 1) (by decide))
/-- days != [] -/
theorem ne_days {K : PySem.W.Frag} {H : Hp} {a b : Addr} {vs : List V} {ds : List Day} {Q : VK} (h1 : SqL K H a vs) (h2 : ThAll K H vs (ds.map dayD)) (h3 : SqL K H b []) (q : Q (.bl (decide (ds ≠ []))) H) : rNeD K (.ref a) (.ref b) H Q := by
  refine ⟨_, .list [], .lst h1 (h2.dp (lay_days ds).2), .lst h3 .nil, shaped_days ds, by simp [SeqAt.shaped, PyData.canLay0, PyData.canLayAll0, PyData.depth, PyData.depthAll], ?_⟩
  cases ds with
  | nil => exact q
  | cons d r => exact q
theorem Choice.lights {g : Good} {lights lights' row : Nat → Int} {m : Nat} {v : Int} (e : ∀ b, b ≤ m → lights b = lights' b) (h : Choice g lights row m v) : Choice g lights' row m v := by
  rcases h with ⟨b, f, s, h1, h2, h3, h4⟩ | h
  · exact .inl ⟨b, f, s, h1, h2, h3, by rw [← e b h1]; exact h4⟩
  · exact .inr h
theorem row_lights {g : Good} {lights lights' row : Nat → Int} {n : Nat} (e : ∀ b, b < n → lights b = lights' b) (h : IsRow g lights row n) : IsRow g lights' row n :=
  ⟨h.zero, fun m hm => (h.some m hm).lights fun b hb => e b (by omega), fun m hm v hv => h.least m hm v (hv.lights fun b hb => (e b (by omega)).symm)⟩
theorem rowF_take {ls : List Int} {m b : Nat} (h : b < m) : rowF (ls.take m) b = rowF ls b := by
  unfold rowF
  rw [List.getD_eq_getElem?_getD, List.getD_eq_getElem?_getD, List.getElem?_take_of_lt h]
theorem row_first {g : Good} {ls rs rs' : List Int} {n m : Nat} (h : IsRow g (rowF ls) (rowF rs) n) (hm : m ≤ n) (h' : IsRow ⟨g.days.take m, g.life⟩ (rowF (ls.take m)) (rowF rs') m) : rowF rs' m = rowF rs m :=
  IsRow.ext (row_lights (fun b hb => rowF_take hb) h') (h.take hm) m (Nat.le_refl m)
theorem rowF_end {rs : List Int} {m : Nat} (h : rs.length = m + 1) : atI (rs.map V.int) (-1) = some (.int (rowF rs m)) := by
  have e := rowF_get (rs := rs) (f := m) (by omega)
  have k : ixN (rs.map V.int).length (-1) = some m := by
    rw [List.length_map, h]
    unfold ixN
    rw [if_neg (by decide)]
    rw [if_pos (by omega)]
    congr 1
    omega
  unfold atI
  rw [k]
  exact e
end Bk

namespace Bk
open PySem PySem.Spec PyProof.Rows L2
/-! ### sums -/
def sumN (f : Nat → Int) : Nat → Int
  | 0 => 0
  | n + 1 => sumN f n + f n
theorem sumN_le {f f' : Nat → Int} : ∀ n, (∀ k, k < n → f k ≤ f' k) → sumN f n ≤ sumN f' n
  | 0, _ => Int.le_refl 0
  | n + 1, h => by
    have a := sumN_le n fun k hk => h k (by omega)
    have b := h n (by omega)
    show sumN f n + f n ≤ sumN f' n + f' n
    omega
theorem sumN_congr {f f' : Nat → Int} (n : Nat) (h : ∀ k, k < n → f k = f' k) : sumN f n = sumN f' n := by
  have a := sumN_le n fun k hk => Int.le_of_eq (h k hk)
  have b := sumN_le n fun k hk => Int.le_of_eq (h k hk).symm
  omega
theorem sumN_add (f f' : Nat → Int) : ∀ n, sumN (fun k => f k + f' k) n = sumN f n + sumN f' n
  | 0 => rfl
  | n + 1 => by
    show sumN (fun k => f k + f' k) n + (f n + f' n) = (sumN f n + f n) + (sumN f' n + f' n)
    rw [sumN_add f f' n]
    omega
theorem sumN_zero {f : Nat → Int} (n : Nat) (h : ∀ k, k < n → f k = 0) : sumN f n = 0 := by
  rw [sumN_congr (f' := fun _ => 0) n h]
  induction n with
  | zero => rfl
  | succ n ih =>
    show sumN (fun _ => 0) n + 0 = 0
    rw [ih fun k hk => h k (by omega)]
    rfl
theorem sumN_nonneg {f : Nat → Int} (n : Nat) (h : ∀ k, k < n → 0 ≤ f k) : 0 ≤ sumN f n := by
  have := sumN_le (f := fun _ => 0) n h
  rw [sumN_zero n fun _ _ => rfl] at this
  exact this
theorem sumN_split (f : Nat → Int) (m : Nat) : ∀ n, sumN f (m + n) = sumN f m + sumN (fun i => f (m + i)) n
  | 0 => by
    show sumN f m = sumN f m + 0
    omega
  | n + 1 => by
    show sumN f (m + n) + f (m + n) = sumN f m + (sumN (fun i => f (m + i)) n + f (m + n))
    rw [sumN_split f m n]
    omega
theorem sumN_grow {f : Nat → Int} {m n : Nat} (hmn : m ≤ n) (h : ∀ k, k < n → 0 ≤ f k) : sumN f m ≤ sumN f n := by
  have e := sumN_split f m (n - m)
  rw [show m + (n - m) = n by omega] at e
  have := sumN_nonneg (f := fun i => f (m + i)) (n - m) fun k hk => h _ (by omega)
  omega
theorem sumN_one {L : Nat → Int} {b : Nat} : ∀ n, b < n → sumN (fun x => if x = b then L x else 0) n = L b
  | 0, h => by omega
  | n + 1, h => by
    show sumN (fun x => if x = b then L x else 0) n + (if n = b then L n else 0) = L b
    by_cases e : n = b
    · subst e
      rw [if_pos rfl, sumN_zero n fun k hk => if_neg (by omega)]
      omega
    · rw [if_neg e, sumN_one n (by omega)]
      omega
theorem segP_of {w : Nat → Option Int} {q : Nat → Int} {f : Nat} : ∀ n, (∀ i, i < n → w (f + i) = some (q (f + i))) → segP w f n = some (sumN (fun i => q (f + i)) n)
  | 0, _ => rfl
  | n + 1, h => segP_add (segP_of n fun i hi => h i (by omega)) (h n (by omega))
theorem exists_least {P : Nat → Prop} (h : ∃ n, P n) : ∃ n, P n ∧ ∀ m, m < n → ¬ P m := by
  obtain ⟨n, hn⟩ := h
  induction n using Nat.strongRecOn with
  | ind n ih =>
    by_cases h : ∃ m, m < n ∧ P m
    · obtain ⟨m, hm, pm⟩ := h
      exact ih m hm pm
    · exact ⟨n, hn, fun m hm pm => h ⟨m, hm, pm⟩⟩
theorem exists_last {P : Nat → Prop} {n : Nat} (h : ∃ k, k < n ∧ P k) : ∃ k, k < n ∧ P k ∧ ∀ m, k < m → m < n → ¬ P m := by
  induction n with
  | zero =>
    obtain ⟨k, hk, _⟩ := h
    omega
  | succ n ih =>
    by_cases hn : P n
    · exact ⟨n, by omega, hn, fun m h1 h2 => by omega⟩
    · obtain ⟨k, hk, pk⟩ := h
      have : k < n := by
        by_cases e : k = n
        · subst e; exact absurd pk hn
        · omega
      obtain ⟨k', h1, h2, h3⟩ := ih ⟨k, this, pk⟩
      refine ⟨k', by omega, h2, fun m m1 m2 => ?_⟩
      by_cases e : m = n
      · subst e; exact hn
      · exact h3 m m1 (by omega)
/-! ### what a set of lit days costs -/
def wantN (g : Good) (k : Nat) : Int := match g.days[k]? with
  | none => 0
  | some d => d.want
structure MinP (g : Good) (S : Nat → Prop) (n k : Nat) (z : Int) : Prop where
  ex : ∃ b, b < n ∧ S b ∧ loafP g b k = some z
  le : ∀ b, b < n → S b → ∀ y, loafP g b k = some y → z ≤ y
open Classical in
noncomputable def litSum (lights : Nat → Int) (S : Nat → Prop) (n : Nat) : Int := sumN (fun b => if S b then lights b else 0) n
structure SetC (g : Good) (lights : Nat → Int) (S : Nat → Prop) (n : Nat) (p : Nat → Int) (c : Int) : Prop where
  min : ∀ k, k < n → wantN g k ≠ 0 → MinP g S n k (p k)
  cost : c = litSum lights S n + sumN (fun k => wantN g k * p k) n
theorem wantP_of {g : Good} {b k : Nat} {z : Int} (hk : k < g.days.length) (h : wantN g k ≠ 0 → loafP g b k = some z) : wantP g b k = some (wantN g k * z) := by
  have hd : g.days[k]? = some g.days[k] := List.getElem?_eq_getElem hk
  unfold wantN at h ⊢
  unfold wantP
  rw [hd] at h ⊢
  dsimp only at h ⊢
  by_cases e : g.days[k].want = 0
  · rw [if_pos e, e, Int.zero_mul]
  · rw [if_neg e, h e]
    rfl
theorem wantN_nonneg {g : Good} (N : NonNegW g.days) (k : Nat) : 0 ≤ wantN g k := by
  unfold wantN
  cases hd : g.days[k]? with
  | none => exact Int.le_refl 0
  | some d => exact N.want d (List.mem_of_getElem? hd)
theorem wantN_zero {g : Good} {k : Nat} (hk : k < g.days.length) (h : wantN g k = 0) : ∃ d, g.days[k]? = some d ∧ d.want = 0 := by
  have hd : g.days[k]? = some g.days[k] := List.getElem?_eq_getElem hk
  refine ⟨_, hd, ?_⟩
  unfold wantN at h
  rw [hd] at h
  exact h
/-- the first day of the set on which day k's loaves cost p -/
structure Sm (g : Good) (S : Nat → Prop) (n : Nat) (p : Nat → Int) (k b : Nat) : Prop where
  lt : b < n
  mem : S b
  at_ : loafP g b k = some (p k)
  first : ∀ b', b' < b → S b' → loafP g b' k ≠ some (p k)
theorem sm_ex {g : Good} {S : Nat → Prop} {n : Nat} {p : Nat → Int} {k : Nat} (h : MinP g S n k (p k)) : ∃ b, Sm g S n p k b := by
  obtain ⟨b, ⟨h1, h2, h3⟩, h4⟩ := exists_least h.ex
  exact ⟨b, h1, h2, h3, fun b' hb' hs e => h4 b' hb' ⟨by omega, hs, e⟩⟩
theorem sm_uniq {g : Good} {S : Nat → Prop} {n : Nat} {p : Nat → Int} {k b b' : Nat} (h : Sm g S n p k b) (h' : Sm g S n p k b') : b = b' := by
  by_cases e : b < b'
  · exact absurd h.at_ (h'.first b e h.mem)
  · by_cases e' : b' < b
    · exact absurd h'.at_ (h.first b' e' h'.mem)
    · omega
theorem sm_mono {g : Good} (N : NonNeg g.days) {S : Nat → Prop} {n : Nat} {p : Nat → Int} (hn : n ≤ g.days.length) {k k' b b' : Nat} (hk : k < k') (mk : MinP g S n k (p k)) (mk' : MinP g S n k' (p k')) (h : Sm g S n p k b) (h' : Sm g S n p k' b') : b ≤ b' := by
  by_cases e : b ≤ b'
  · exact e
  · exfalso
    have hb := h.lt
    obtain ⟨z, t, h1, h2, h3⟩ := loaf_cross N (show b' < b by omega) hk (by omega) h'.at_ h.at_
    have a1 := mk'.le b h.lt h.mem t h2
    have a2 := mk.le b' h'.lt h'.mem z h1
    exact h.first b' (by omega) h'.mem (by rw [h1, show z = p k by omega])
theorem finesL_join {ds : List Day} {i j k : Nat} {x y : Int} (h1 : i ≤ j) (h2 : j ≤ k) (a : finesL ds i j = some x) (b : finesL ds j k = some y) : finesL ds i k = some (x + y) := by
  unfold finesL at a b ⊢
  rw [seg_split ds h1 h2, List.map_append]
  exact sumO_join' a b
theorem loafP_ext' {g : Good} {j k : Nat} {d : Day} {z : Int} (hd : g.days[j]? = some d) (h : loafP g j k = some z) : ∃ e, extP g j k = some e ∧ d.loaf + e = z := by
  rw [loafP_ext hd] at h
  cases he : extP g j k with
  | none => rw [he] at h; cases h
  | some e =>
    rw [he] at h
    exact ⟨e, rfl, Option.some.inj h⟩
/-- who waits for a day takes all wants up to that day along -/
theorem sm_wait {g : Good} (N : NonNeg g.days) (hl : ∀ l, g.life = some l → 0 ≤ l) {S : Nat → Prop} {n : Nat} {p : Nat → Int} (hn : n ≤ g.days.length) {k k' b b' : Nat} (hk : k < k') (hb : k' ≤ b) (mk : MinP g S n k (p k)) (mk' : MinP g S n k' (p k')) (h : Sm g S n p k b) (h' : Sm g S n p k' b') : b' = b := by
  have hle := sm_mono N hn hk mk mk' h h'
  by_cases e : b' = b
  · exact e
  · exfalso
    have hlt : b < b' := by omega
    have l1 := h.lt
    have l2 := h'.lt
    have db : g.days[b]? = some (g.days[b]'(by omega)) := List.getElem?_eq_getElem (by omega)
    have db' : g.days[b']? = some (g.days[b']'(by omega)) := List.getElem?_eq_getElem (by omega)
    generalize g.days[b]'(by omega) = d at db
    generalize g.days[b']'(by omega) = d' at db'
    obtain ⟨x, hx, ex⟩ := loafP_ext' db h.at_
    obtain ⟨y, hy, ey⟩ := loafP_ext' db' h'.at_
    have fx := (ext_fine (show k < b by omega)).mp hx
    have fy := (ext_fine (show k' < b' by omega)).mp hy
    obtain ⟨y1, y2, f1, f2, e12⟩ := finesL_split hb (show b ≤ b' by omega) fy
    have fj := finesL_join (show k ≤ b by omega) (show b ≤ b' by omega) fx f2
    have pj : loafP g b' k = some (d'.loaf + (x + y2)) := by
      rw [loafP_ext db', (ext_fine (show k < b' by omega)).mpr fj]
      rfl
    have a1 := mk.le b' h'.lt h'.mem _ pj
    have pk : loafP g b k' = some (d.loaf + y1) := by
      by_cases ekb : k' < b
      · rw [loafP_ext db, (ext_fine ekb).mpr f1]
        rfl
      · have ekb : k' = b := by omega
        subst ekb
        have z1 : y1 = 0 := by
          unfold finesL at f1
          rw [Nat.sub_self] at f1
          exact (Option.some.inj f1).symm
        have z2 : keepsL g.days k' k' = 0 := by
          unfold keepsL
          rw [Nat.sub_self]
          rfl
        rw [loafP_ext db, (ext_keep (Nat.le_refl k')).mpr ⟨fun l el => by have := hl l el; omega, z2⟩, z1]
        rfl
    have a2 := mk'.le b h.lt h.mem _ pk
    exact h'.first b hlt h.mem (by rw [pk]; congr 1; omega)
open Classical in
/-- no set of lit days costs less than the row tells -/
theorem row_le_set {g : Good} {lights row : Nat → Int} {M : Nat} (h : IsRow g lights row M) (hM : M ≤ g.days.length) (hl : ∀ b, 0 ≤ lights b) (N : NonNegW g.days) (hlf : ∀ l, g.life = some l → 0 ≤ l) : ∀ n, n ≤ M → ∀ (S : Nat → Prop) (p : Nat → Int) (c : Int), SetC g lights S n p c → row n ≤ c := by
  intro n
  induction n using Nat.strongRecOn with
  | ind n ih =>
    intro hn S p c hc
    have ls0 : ∀ (S : Nat → Prop) m, 0 ≤ litSum lights S m := fun S m => sumN_nonneg m fun k _ => by
      show 0 ≤ (if S k then lights k else 0)
      split
      · exact hl k
      · exact Int.le_refl 0
    by_cases hw : ∃ k, k < n ∧ wantN g k ≠ 0
    · obtain ⟨kl, hkl, wkl, lastk⟩ := exists_last hw
      obtain ⟨bs, hbs⟩ := sm_ex (hc.min kl hkl wkl)
      obtain ⟨f, ⟨hf1, hf2, hf3⟩, hf4⟩ := exists_least (P := fun k => k < n ∧ wantN g k ≠ 0 ∧ Sm g S n p k bs) ⟨kl, hkl, wkl, hbs⟩
      have hfk : f ≤ kl := by
        by_cases e : f ≤ kl
        · exact e
        · exact absurd ⟨hkl, wkl, hbs⟩ (hf4 kl (by omega))
      have hbn := hbs.lt
      have lo : ∀ k, k < f → wantN g k ≠ 0 → ∃ b, Sm g S n p k b ∧ b < f ∧ b < bs := by
        intro k hk wk
        obtain ⟨b, hb⟩ := sm_ex (hc.min k (by omega) wk)
        have h1 := sm_mono N.nn (by omega) hk (hc.min k (by omega) wk) (hc.min f hf1 hf2) hb hf3
        have h2 : b ≠ bs := fun e => hf4 k hk ⟨by omega, wk, e ▸ hb⟩
        refine ⟨b, hb, ?_, by omega⟩
        by_cases e : b < f
        · exact e
        · exact absurd (sm_wait N.nn hlf (by omega) hk (by omega) (hc.min k (by omega) wk) (hc.min f hf1 hf2) hb hf3).symm h2
      have hi : ∀ k, f ≤ k → k < n → wantN g k ≠ 0 → loafP g bs k = some (p k) := by
        intro k hk hkn wk
        have hkkl : k ≤ kl := by
          by_cases e : k ≤ kl
          · exact e
          · exact absurd wk (lastk k (by omega) hkn)
        obtain ⟨b, hb⟩ := sm_ex (hc.min k hkn wk)
        have h1 : bs ≤ b := by
          by_cases e : f = k
          · subst e
            exact Nat.le_of_eq (sm_uniq hf3 hb)
          · exact sm_mono N.nn (by omega) (show f < k by omega) (hc.min f hf1 hf2) (hc.min k hkn wk) hf3 hb
        have h2 : b ≤ bs := by
          by_cases e : k = kl
          · subst e
            exact Nat.le_of_eq (sm_uniq hb hbs)
          · exact sm_mono N.nn (by omega) (show k < kl by omega) (hc.min k hkn wk) (hc.min kl hkl wkl) hb hbs
        have : b = bs := by omega
        subst this
        exact hb.at_
      -- the days ahead of the stretch
      have low : row f ≤ litSum lights (fun b => S b ∧ b < f ∧ b < bs) f + sumN (fun k => wantN g k * p k) f := by
        refine ih f hf1 (by omega) (fun b => S b ∧ b < f ∧ b < bs) p _ ⟨fun k hk wk => ?_, rfl⟩
        obtain ⟨b, hb, h1, h2⟩ := lo k hk wk
        exact ⟨⟨b, h1, ⟨hb.mem, h1, h2⟩, hb.at_⟩, fun b' hb' hs y hy => (hc.min k (by omega) wk).le b' (by omega) hs.1 y hy⟩
      -- the stretch
      have seg : segP (wantP g bs) f (n - f) = some (sumN (fun i => wantN g (f + i) * p (f + i)) (n - f)) := segP_of (q := fun k => wantN g k * p k) (n - f) fun i hi' => wantP_of (by omega) fun wk => hi (f + i) (by omega) (by omega) wk
      have least := h.least (n - 1) (by omega) _ (.inl ⟨bs, f, _, by omega, by omega, by rw [show n - 1 + 1 - f = n - f by omega]; exact seg, rfl⟩)
      rw [show n - 1 + 1 = n by omega] at least
      have spl := sumN_split (fun k => wantN g k * p k) f (n - f)
      rw [show f + (n - f) = n by omega] at spl
      -- the lights
      have lit : litSum lights (fun b => S b ∧ b < f ∧ b < bs) f + lights bs ≤ litSum lights S n := by
        have g1 : litSum lights (fun b => S b ∧ b < f ∧ b < bs) f ≤ litSum lights (fun b => S b ∧ b < f ∧ b < bs) n := sumN_grow (by omega) fun k _ => by
          dsimp only
          split
          · exact hl k
          · exact Int.le_refl 0
        have g2 := sumN_one (L := lights) n hbn
        have g3 : litSum lights (fun b => S b ∧ b < f ∧ b < bs) n + sumN (fun x => if x = bs then lights x else 0) n ≤ litSum lights S n := by
          unfold litSum
          rw [← sumN_add]
          refine sumN_le n fun k hk => ?_
          have lk := hl k
          by_cases e : k = bs
          · subst e
            rw [if_neg (fun z => by omega), if_pos rfl, if_pos hbs.mem]
            omega
          · rw [if_neg e]
            by_cases e2 : S k ∧ k < f ∧ k < bs
            · rw [if_pos e2, if_pos e2.1]
              omega
            · rw [if_neg e2]
              split <;> omega
        omega
      have cc := hc.cost
      omega
    · have z : ∀ k, k < n → wantN g k = 0 := fun k hk => Decidable.not_not.mp fun e => hw ⟨k, hk, e⟩
      have a := row_flat h (f := 0) n (by omega) hn fun k _ hk => wantN_zero (by omega) (z k hk)
      rw [h.zero] at a
      have b := hc.cost
      rw [sumN_zero n fun k hk => by rw [z k hk, Int.zero_mul]] at b
      have := ls0 S n
      omega
open Classical in
theorem exists_min {g : Good} {S : Nat → Prop} {k : Nat} : ∀ n, (∃ b z, b < n ∧ S b ∧ loafP g b k = some z) → ∃ z, MinP g S n k z
  | 0, h => by
    obtain ⟨b, z, hb, _⟩ := h
    omega
  | n + 1, h => by
    by_cases h0 : ∃ b z, b < n ∧ S b ∧ loafP g b k = some z
    · obtain ⟨z, ⟨b, hb, hs, hz⟩, hle⟩ := exists_min n h0
      by_cases hn : S n ∧ ∃ y, loafP g n k = some y ∧ y < z
      · obtain ⟨sn, y, hy, hyz⟩ := hn
        refine ⟨y, ⟨n, by omega, sn, hy⟩, fun b' hb' hs' y' hy' => ?_⟩
        by_cases e : b' = n
        · subst e
          rw [hy] at hy'
          have := Option.some.inj hy'
          omega
        · have := hle b' (by omega) hs' y' hy'
          omega
      · refine ⟨z, ⟨b, by omega, hs, hz⟩, fun b' hb' hs' y' hy' => ?_⟩
        by_cases e : b' = n
        · subst e
          by_cases hh : z ≤ y'
          · exact hh
          · exact absurd ⟨hs', y', hy', by omega⟩ hn
        · exact hle b' (by omega) hs' y' hy'
    · obtain ⟨b, z, hb, hs, hz⟩ := h
      have e : b = n := by
        by_cases e : b = n
        · exact e
        · exact absurd ⟨b, z, by omega, hs, hz⟩ h0
      subst e
      refine ⟨z, ⟨b, by omega, hs, hz⟩, fun b' hb' hs' y' hy' => ?_⟩
      by_cases e : b' = b
      · subst e
        rw [hz] at hy'
        have := Option.some.inj hy'
        omega
      · exact absurd ⟨b', y', by omega, hs', hy'⟩ h0
theorem wantP_inv {g : Good} {b k : Nat} {z : Int} (h : wantP g b k = some z) : (wantN g k = 0 ∧ z = 0) ∨ ∃ y, loafP g b k = some y ∧ z = wantN g k * y := by
  unfold wantP at h
  unfold wantN
  cases hd : g.days[k]? with
  | none => rw [hd] at h; cases h
  | some d =>
    rw [hd] at h
    dsimp only at h ⊢
    split at h
    · exact .inl ⟨by assumption, (Option.some.inj h).symm⟩
    · cases hp : loafP g b k with
      | none => rw [hp] at h; cases h
      | some y =>
        rw [hp] at h
        exact .inr ⟨y, rfl, (Option.some.inj h).symm⟩
theorem segP_sum {w : Nat → Option Int} {f : Nat} : ∀ {n : Nat} {s : Int}, segP w f n = some s → ∃ q : Nat → Int, (∀ i, i < n → w (f + i) = some (q (f + i))) ∧ s = sumN (fun i => q (f + i)) n
  | 0, s, h => ⟨fun _ => 0, fun i hi => by omega, (Option.some.inj h).symm⟩
  | n + 1, s, h => by
    obtain ⟨x, y, h1, h2, h3⟩ := segP_succ h
    obtain ⟨q, q1, q2⟩ := segP_sum h1
    refine ⟨fun k => if k = f + n then y else q k, fun i hi => ?_, ?_⟩
    · dsimp only
      by_cases e : i = n
      · subst e
        rw [if_pos rfl]
        exact h2
      · rw [if_neg (by omega)]
        exact q1 i (by omega)
    · show s = sumN (fun i => if f + i = f + n then y else q (f + i)) n + (if f + n = f + n then y else q (f + n))
      rw [if_pos rfl, sumN_congr (f' := fun i => q (f + i)) n fun i hi => if_neg (by omega), ← q2]
      exact h3
open Classical in
/-- some set of lit days costs no more than the row tells -/
theorem set_of_row {g : Good} {lights row : Nat → Int} {M : Nat} (h : IsRow g lights row M) (hM : M ≤ g.days.length) (hl : ∀ b, 0 ≤ lights b) (N : NonNegW g.days) : ∀ n, n ≤ M → ∃ (S : Nat → Prop) (p : Nat → Int) (c : Int), SetC g lights S n p c ∧ c ≤ row n := by
  intro n
  induction n using Nat.strongRecOn with
  | ind n ih =>
    intro hn
    cases n with
    | zero => exact ⟨fun _ => False, fun _ => 0, 0, ⟨fun k hk => by omega, rfl⟩, by rw [h.zero]; exact Int.le_refl 0⟩
    | succ m =>
      rcases h.some m (by omega) with ⟨b, f, s, hb, hf, hs, hv⟩ | ⟨⟨d, hd, hw⟩, hv⟩
      · obtain ⟨S, p, c, hc, hle⟩ := ih f (by omega) (by omega)
        obtain ⟨q, q1, q2⟩ := segP_sum hs
        let S' : Nat → Prop := fun x => (x < f ∧ S x) ∨ x = b
        have ex : ∀ k, ∃ z, k < m + 1 → wantN g k ≠ 0 → MinP g S' (m + 1) k z := by
          intro k
          by_cases hk : k < m + 1 ∧ wantN g k ≠ 0
          · have : ∃ z, MinP g S' (m + 1) k z := exists_min (m + 1) (by
              by_cases hkf : k < f
              · obtain ⟨b', h1, h2, h3⟩ := (hc.min k hkf hk.2).ex
                exact ⟨b', _, by omega, .inl ⟨h1, h2⟩, h3⟩
              · have e := q1 (k - f) (by omega)
                rw [show f + (k - f) = k by omega] at e
                rcases wantP_inv e with ⟨e1, _⟩ | ⟨y, e1, _⟩
                · exact absurd e1 hk.2
                · exact ⟨b, y, by omega, .inr rfl, e1⟩)
            obtain ⟨z, hz⟩ := this
            exact ⟨z, fun _ _ => hz⟩
          · exact ⟨0, fun h1 h2 => absurd ⟨h1, h2⟩ hk⟩
        let p' : Nat → Int := fun k => choose (ex k)
        have hp' : ∀ k, k < m + 1 → wantN g k ≠ 0 → MinP g S' (m + 1) k (p' k) := fun k => choose_spec (ex k)
        refine ⟨S', p', _, ⟨hp', rfl⟩, ?_⟩
        have spl := sumN_split (fun k => wantN g k * p' k) f (m + 1 - f)
        rw [show f + (m + 1 - f) = m + 1 by omega] at spl
        have w1 : sumN (fun k => wantN g k * p' k) f ≤ sumN (fun k => wantN g k * p k) f := sumN_le f fun k hk => by
          by_cases e : wantN g k = 0
          · rw [e, Int.zero_mul, Int.zero_mul]
            exact Int.le_refl 0
          · obtain ⟨b', h1, h2, h3⟩ := (hc.min k hk e).ex
            exact Int.mul_le_mul_of_nonneg_left ((hp' k (by omega) e).le b' (by omega) (.inl ⟨h1, h2⟩) _ h3) (wantN_nonneg N k)
        have w2 : sumN (fun i => wantN g (f + i) * p' (f + i)) (m + 1 - f) ≤ s := by
          rw [q2]
          refine sumN_le _ fun i hi => ?_
          have e := q1 i hi
          by_cases ew : wantN g (f + i) = 0
          · have := wantP_nonneg N e
            rw [ew, Int.zero_mul]
            exact this
          · rcases wantP_inv e with ⟨e1, _⟩ | ⟨y, e1, e2⟩
            · exact absurd e1 ew
            · rw [e2]
              exact Int.mul_le_mul_of_nonneg_left ((hp' (f + i) (by omega) ew).le b (by omega) (.inr rfl) _ e1) (wantN_nonneg N _)
        have l1 : litSum lights S' (m + 1) ≤ litSum lights S f + lights b := by
          have e1 : litSum lights S f = litSum lights (fun x => x < f ∧ S x) (m + 1) := by
            have e := sumN_split (fun x => if x < f ∧ S x then lights x else 0) f (m + 1 - f)
            rw [show f + (m + 1 - f) = m + 1 by omega, sumN_zero (f := fun i => if f + i < f ∧ S (f + i) then lights (f + i) else 0) _ fun i _ => if_neg fun z => by omega] at e
            unfold litSum
            rw [sumN_congr (f' := fun x => if x < f ∧ S x then lights x else 0) f fun k hk => by
              by_cases e : S k
              · rw [if_pos e, if_pos ⟨hk, e⟩]
              · rw [if_neg e, if_neg fun z => e z.2]]
            have e2 : ∀ A : Int, A + 0 = A := Int.add_zero
            rw [e2] at e
            rw [← e]
            refine sumN_congr _ fun k _ => ?_
            by_cases e : k < f ∧ S k
            · rw [if_pos e, if_pos e]
            · rw [if_neg e, if_neg e]
          have e2 := sumN_one (L := lights) (m + 1) (show b < m + 1 by omega)
          rw [e1, ← e2]
          unfold litSum
          rw [← sumN_add]
          refine sumN_le _ fun k hk => ?_
          have lk := hl k
          dsimp only
          by_cases e3 : k = b
          · rw [if_pos (show S' k from .inr e3), if_pos e3]
            split <;> omega
          · by_cases e4 : k < f ∧ S k
            · rw [if_pos (show S' k from .inl e4), if_pos e4, if_neg e3]
              omega
            · rw [if_neg (show ¬ S' k from fun z => z.elim e4 e3), if_neg e4, if_neg e3]
              omega
        have cc := hc.cost
        omega
      · obtain ⟨S, p, c, hc, hle⟩ := ih m (by omega) (by omega)
        have ew : wantN g m = 0 := by
          unfold wantN
          rw [hd]
          exact hw
        refine ⟨fun x => x < m ∧ S x, p, c, ⟨fun k hk wk => ?_, ?_⟩, by rw [hv]; exact hle⟩
        · have hkm : k < m := by
            by_cases e : k = m
            · subst e; exact absurd ew wk
            · omega
          have mk := hc.min k hkm wk
          obtain ⟨b, h1, h2, h3⟩ := mk.ex
          exact ⟨⟨b, by omega, ⟨h1, h2⟩, h3⟩, fun b' hb' hs y hy => mk.le b' hs.1 hs.2 y hy⟩
        · have e1 : litSum lights (fun x => x < m ∧ S x) (m + 1) = litSum lights S m := by
            have e0 : litSum lights (fun x => x < m ∧ S x) (m + 1) = litSum lights (fun x => x < m ∧ S x) m + 0 := by
              refine congrArg (litSum lights (fun x => x < m ∧ S x) m + ·) ?_
              exact if_neg fun z => absurd z.1 (by omega)
            rw [e0, Int.add_zero]
            refine sumN_congr _ fun k hk => ?_
            dsimp only
            by_cases e : S k
            · rw [if_pos e, if_pos ⟨hk, e⟩]
            · rw [if_neg e, if_neg fun z => e z.2]
          rw [e1, hc.cost]
          show _ = litSum lights S m + (sumN (fun k => wantN g k * p k) m + wantN g m * p m)
          rw [ew, Int.zero_mul, Int.add_zero]
theorem setC_uniq {g : Good} {lights : Nat → Int} {S : Nat → Prop} {n : Nat} {p p' : Nat → Int} {c c' : Int} (h : SetC g lights S n p c) (h' : SetC g lights S n p' c') : c = c' := by
  rw [h.cost, h'.cost, sumN_congr (f' := fun k => wantN g k * p' k) n fun k hk => ?_]
  by_cases e : wantN g k = 0
  · rw [e, Int.zero_mul, Int.zero_mul]
  · have a := h.min k hk e
    have b := h'.min k hk e
    obtain ⟨b1, h1, h2, h3⟩ := a.ex
    obtain ⟨b2, h4, h5, h6⟩ := b.ex
    have := a.le b2 h4 h5 _ h6
    have := b.le b1 h1 h2 _ h3
    rw [show p k = p' k by omega]
end Bk

namespace Bk
open PySem PySem.Spec PyProof.Rows L2
def rShr : R2 := fun x y H Q => ∃ (i : Int) (k : Nat), x = .int i ∧ y = .int (k : Int) ∧ Q (.int (i / 2 ^ k)) H
def rOdd : R2 := fun x y H Q => ∃ n : Nat, x = .int (n : Int) ∧ y = .int 1 ∧ Q (.int ((n % 2 : Nat) : Int)) H
theorem op_shrK {X : Cx} : OpR X (binaryOp .RShift) rShr := op_shrN
theorem op_oddK {X : Cx} : OpR X (binaryOp .BitAnd) rOdd := op_odd
theorem rShr_i {i j : Int} {H : Hp} {Q : VK} : rShr (.int i) (.int j) H Q = ∃ k : Nat, j = (k : Int) ∧ Q (.int (i / 2 ^ k)) H := propext ⟨fun ⟨_, k, e1, e2, h⟩ => by cases e1; cases e2; exact ⟨k, rfl, h⟩, fun ⟨k, e, h⟩ => ⟨i, k, rfl, by rw [e], h⟩⟩
theorem rOdd_i {i : Int} {H : Hp} {Q : VK} : rOdd (.int i) (.int 1) H Q = ∃ n : Nat, i = (n : Int) ∧ Q (.int ((n % 2 : Nat) : Int)) H := propext ⟨fun ⟨n, e1, e2, h⟩ => by cases e1; exact ⟨n, rfl, h⟩, fun ⟨n, e, h⟩ => ⟨n, by rw [e], rfl, h⟩⟩
def litL (S : Nat → Bool) (n : Nat) : List Nat := (List.range n).filter S
def inS (S : Nat → Bool) (b : Nat) : Prop := S b = true
theorem litL_mem {S : Nat → Bool} {n b : Nat} : b ∈ litL S n ↔ b < n ∧ inS S b := by
  unfold litL inS
  rw [List.mem_filter, List.mem_range]
theorem litL_length (S : Nat → Bool) (n : Nat) : (litL S n).length ≤ n := by
  have : ((List.range n).filter S).length ≤ (List.range n).length := List.length_filter_le ..
  rw [List.length_range] at this
  exact this
theorem sum_lit (L : Nat → Int) (S : Nat → Bool) : ∀ n, ((litL S n).map L).sum = litSum L (inS S) n
  | 0 => rfl
  | n + 1 => by
    have ih := sum_lit L S n
    have e : litSum L (inS S) (n + 1) = litSum L (inS S) n + (if S n = true then L n else 0) := by
      refine congrArg (litSum L (inS S) n + ·) ?_
      unfold inS
      by_cases h : S n = true
      · rw [if_pos h]; exact if_pos h
      · rw [if_neg h]; exact if_neg h
    rw [e, ← ih]
    unfold litL
    rw [List.range_succ, List.filter_append, List.map_append, sum_append']
    congr 1
    by_cases h : S n = true
    · rw [if_pos h]
      simp [h]
    · rw [if_neg h]
      simp [h]
theorem minP_of {g : Good} {S : Nat → Bool} {n k : Nat} {z : Int} (h : z ∈ ((litL S n).map fun b => loafP g b k).filterMap id) (hle : ∀ y, y ∈ ((litL S n).map fun b => loafP g b k).filterMap id → z ≤ y) : MinP g (inS S) n k z := by
  have mem : ∀ y, y ∈ ((litL S n).map fun b => loafP g b k).filterMap id ↔ ∃ b, b < n ∧ inS S b ∧ loafP g b k = some y := by
    intro y
    rw [List.mem_filterMap]
    constructor
    · rintro ⟨o, ho, e⟩
      obtain ⟨b, hb, rfl⟩ := List.mem_map.mp ho
      exact ⟨b, (litL_mem.mp hb).1, (litL_mem.mp hb).2, e⟩
    · rintro ⟨b, h1, h2, h3⟩
      exact ⟨_, List.mem_map.mpr ⟨b, litL_mem.mpr ⟨h1, h2⟩, rfl⟩, h3⟩
  exact ⟨(mem z).mp h, fun b hb hs y hy => hle y ((mem y).mpr ⟨b, hb, hs, hy⟩)⟩
theorem no_minP {g : Good} {S : Nat → Bool} {n k : Nat} {z : Int} (h : ((litL S n).map fun b => loafP g b k).filterMap id = []) (m : MinP g (inS S) n k z) : False := by
  obtain ⟨b, h1, h2, h3⟩ := m.ex
  have : z ∈ ((litL S n).map fun b => loafP g b k).filterMap id := List.mem_filterMap.mpr ⟨_, List.mem_map.mpr ⟨b, litL_mem.mpr ⟨h1, h2⟩, rfl⟩, h3⟩
  rw [h] at this
  cases this
/-- ints == [] -/
theorem eq_nil_ints {K : PySem.W.Frag} {H : Hp} {a b : Addr} {ns : List Int} {Q : VK} (h1 : SqL K H a (ns.map V.int)) (h3 : SqL K H b []) (q : Q (.bl (decide (ns = []))) H) : rEqD K (.ref a) (.ref b) H Q := by
  refine ⟨_, .list [], .lst h1 (dp_ints ns), .lst h3 .nil, shaped_ints ns, by simp [SeqAt.shaped, PyData.canLay0, PyData.canLayAll0, PyData.depth, PyData.depthAll], ?_⟩
  cases ns with
  | nil => exact q
  | cons d r => exact q
def bitS (num b : Nat) : Bool := decide (num / 2 ^ b % 2 = 1)
theorem bits_ex : ∀ (n : Nat) (S : Nat → Prop), ∃ num, num < 2 ^ n ∧ ∀ b, b < n → (inS (bitS num) b ↔ S b)
  | 0, S => ⟨0, by decide, fun b hb => by omega⟩
  | n + 1, S => by
    obtain ⟨num, h1, h2⟩ := bits_ex n fun b => S (b + 1)
    have key : ∀ e : Nat, e < 2 → ∀ b, inS (bitS (e + 2 * num)) b ↔ (b = 0 ∧ e = 1) ∨ (0 < b ∧ inS (bitS num) (b - 1)) := by
      intro e he b
      unfold inS bitS
      simp only [decide_eq_true_eq]
      cases b with
      | zero =>
        rw [Nat.pow_zero, Nat.div_one]
        omega
      | succ b =>
        rw [show 2 ^ (b + 1) = 2 * 2 ^ b by rw [Nat.pow_succ, Nat.mul_comm], ← Nat.div_div_eq_div_mul, show (e + 2 * num) / 2 = num by omega, Nat.add_sub_cancel]
        constructor
        · intro h
          exact .inr ⟨Nat.succ_pos _, h⟩
        · rintro (⟨h, _⟩ | ⟨_, h⟩)
          · exact absurd h (Nat.succ_ne_zero _)
          · exact h
    by_cases h0 : S 0
    · refine ⟨1 + 2 * num, by rw [Nat.pow_succ]; omega, fun b hb => ?_⟩
      rw [key 1 (by decide)]
      cases b with
      | zero => exact ⟨fun _ => h0, fun _ => .inl ⟨rfl, rfl⟩⟩
      | succ b =>
        rw [Nat.add_sub_cancel, ← h2 b (by omega)]
        constructor
        · rintro (⟨h, _⟩ | ⟨_, h⟩)
          · exact absurd h (Nat.succ_ne_zero _)
          · exact h
        · intro h
          exact .inr ⟨Nat.succ_pos _, h⟩
    · refine ⟨0 + 2 * num, by rw [Nat.pow_succ]; omega, fun b hb => ?_⟩
      rw [key 0 (by decide)]
      cases b with
      | zero =>
        constructor
        · rintro (⟨_, h⟩ | ⟨h, _⟩)
          · exact absurd h (by decide)
          · exact absurd h (by decide)
        · intro h
          exact absurd h h0
      | succ b =>
        rw [Nat.add_sub_cancel, ← h2 b (by omega)]
        constructor
        · rintro (⟨h, _⟩ | ⟨_, h⟩)
          · exact absurd h (Nat.succ_ne_zero _)
          · exact h
        · intro h
          exact .inr ⟨Nat.succ_pos _, h⟩
theorem setC_congr {g : Good} {lights : Nat → Int} {S S' : Nat → Prop} {n : Nat} {p : Nat → Int} {c : Int} (e : ∀ b, b < n → (S b ↔ S' b)) (h : SetC g lights S n p c) : SetC g lights S' n p c := by
  refine ⟨fun k hk wk => ?_, ?_⟩
  · have m := h.min k hk wk
    obtain ⟨b, h1, h2, h3⟩ := m.ex
    exact ⟨⟨b, h1, (e b h1).mp h2, h3⟩, fun b' hb' hs y hy => m.le b' hb' ((e b' hb').mpr hs) y hy⟩
  · rw [h.cost]
    congr 1
    unfold litSum
    refine sumN_congr n fun b hb => ?_
    by_cases h1 : S b
    · rw [if_pos h1, if_pos ((e b hb).mp h1)]
    · rw [if_neg h1, if_neg fun z => h1 ((e b hb).mpr z)]
/-- what the best of the first so many sets is -/
structure Best (g : Good) (lights : Nat → Int) (n i : Nat) (o : Option Int) : Prop where
  from_ : ∀ c, o = some c → ∃ S p, SetC g lights S n p c
  upto : ∀ num, num < i → num < 2 ^ n → ∀ p c, SetC g lights (inS (bitS num)) n p c → ∃ c0, o = some c0 ∧ c0 ≤ c
theorem Best.done {g : Good} {lights row : Nat → Int} {n i M : Nat} {o : Option Int} (h : Best g lights n i o) (hi : 2 ^ n ≤ i) (hR : IsRow g lights row M) (hn : n ≤ M) (hM : M ≤ g.days.length) (hl : ∀ b, 0 ≤ lights b) (N : NonNegW g.days) (hlf : ∀ l, g.life = some l → 0 ≤ l) : o = some (row n) := by
  obtain ⟨S, p, c, hc, hle⟩ := set_of_row hR hM hl N n hn
  obtain ⟨num, h1, h2⟩ := bits_ex n S
  obtain ⟨c0, rfl, hc0⟩ := h.upto num (by omega) h1 p c (setC_congr (fun b hb => (h2 b hb).symm) hc)
  obtain ⟨S', p', h'⟩ := h.from_ c0 rfl
  have := row_le_set hR hM hl N hlf n hn S' p' c0 h'
  congr 1
  omega
theorem rSetL_r {p : Addr} {k : Int} {v : V} {H : Hp} {Q : Hp → Prop} : rSetL (.ref p) (.int k) v H Q = ∃ xs j, H p = some (.lst xs) ∧ ixN xs.length k = some j ∧ Q (upd H p (.lst (xs.set j v))) := propext ⟨fun ⟨_, xs, _, j, e1, e2, h⟩ => by cases e1; cases e2; exact ⟨xs, j, h⟩, fun ⟨xs, j, h⟩ => ⟨p, xs, k, j, rfl, rfl, h⟩⟩
theorem due_row {g : Good} {ls rs : List Int} {os : List (Option Int)} (hb : ∀ j o, os[j]? = some o → Best g (rowF ls) j 64 o) (hl : os.length = ls.length + 1) (h6 : ls.length ≤ 6) (hg : g.days.length = ls.length) (hR : IsRow g (rowF ls) (rowF rs) ls.length) (hrl : rs.length = ls.length + 1) (hn : ∀ b, 0 ≤ rowF ls b) (N : NonNegW g.days) (hlf : ∀ l, g.life = some l → 0 ≤ l) : os.map optV = rs.map V.int := by
  apply List.ext_getElem?
  intro j
  by_cases hj : j < ls.length + 1
  · have e := List.getElem?_eq_getElem (show j < os.length by omega)
    have b := hb j _ e
    have hp : 2 ^ j ≤ 64 := Nat.pow_le_pow_right (by decide) (show j ≤ 6 by omega)
    have k := b.done hp hR (by omega) (by omega) hn N hlf
    rw [List.getElem?_map, e, k, rowF_get (by omega)]
    rfl
  · rw [List.getElem?_eq_none (by rw [List.length_map]; omega), List.getElem?_eq_none (by rw [List.length_map]; omega)]
end Bk

namespace Bk
open PySem PySem.Spec PyProof.Rows L2
/-! ### the row of least costs where wants may be baked on any of all days, and its steps as prices -/
structure IsAny (g : Good) (lights ar : Nat → Int) (c n : Nat) : Prop where
  zero : ar 0 = 0
  unw : ∀ m, m < n → wantN g m = 0 → ar (m + 1) = ar m
  some : ∀ m, m < n → wantN g m ≠ 0 → ChC ar lights (wantP g) c m (ar (m + 1))
  least : ∀ m, m < n → wantN g m ≠ 0 → ∀ v, ChC ar lights (wantP g) c m v → ar (m + 1) ≤ v
theorem wantN_at {g : Good} {k : Nat} {d : Day} (h : g.days[k]? = some d) : wantN g k = d.want := by
  unfold wantN
  rw [h]
theorem wantP_unw {g : Good} {b k : Nat} (hk : k < g.days.length) (h : wantN g k = 0) : wantP g b k = some 0 := by
  have e := wantP_of (g := g) (b := b) (k := k) (z := 0) hk fun z => absurd h z
  rw [e, h, Int.zero_mul]
theorem any_lets {g : Good} {lights ar : Nat → Int} {c n : Nat} (h : IsAny g lights ar c n) (hn : n ≤ g.days.length) (hl : ∀ b, 0 ≤ lights b) {b f : Nat} (hb : b < c) : ∀ (m : Nat) (s : Int), f + m ≤ n → segP (wantP g b) f m = some s → ar (f + m) ≤ ar f + lights b + s
  | 0, s, _, hs => by
    rw [segP_zero] at hs
    have e := Option.some.inj hs
    have := hl b
    rw [Nat.add_zero]
    omega
  | m + 1, s, hm, hs => by
    by_cases hw : wantN g (f + m) = 0
    · obtain ⟨x, y, h1, h2, h3⟩ := segP_succ hs
      have ih := any_lets h hn hl hb m x (by omega) h1
      rw [wantP_unw (by omega) hw] at h2
      have e2 := Option.some.inj h2
      have e3 := h.unw (f + m) (by omega) hw
      rw [show f + (m + 1) = f + m + 1 by omega, e3]
      omega
    · exact h.least (f + m) (by omega) hw _ ⟨b, f, s, hb, by omega, by rw [show f + m + 1 - f = m + 1 by omega]; exact hs, rfl⟩
theorem any_le_row {g : Good} {lights ar row : Nat → Int} {c n : Nat} (h : IsAny g lights ar c n) (hr : IsRow g lights row n) (hc : n ≤ c) (hn : n ≤ g.days.length) (hl : ∀ b, 0 ≤ lights b) : ∀ m, m ≤ n → ar m ≤ row m := by
  intro m
  induction m using Nat.strongRecOn with
  | ind m ih =>
    intro hm
    cases m with
    | zero => rw [h.zero, hr.zero]; exact Int.le_refl 0
    | succ m =>
      rcases hr.some m (by omega) with ⟨b, f, s, hb, hf, hs, hv⟩ | ⟨⟨d, hd, hw⟩, hv⟩
      · have a := any_lets h hn hl (show b < c by omega) (m + 1 - f) s (by omega) hs
        rw [show f + (m + 1 - f) = m + 1 by omega] at a
        have := ih f (by omega) (by omega)
        omega
      · have e := h.unw m (by omega) ((wantN_at hd).trans hw)
        have := ih m (by omega) (by omega)
        omega
/-- lit days and prices of loaves by which the first m days' wants cost no more than v -/
structure Cov (g : Good) (lights : Nat → Int) (c m : Nat) (S : Nat → Prop) (p : Nat → Int) (v : Int) : Prop where
  ex : ∀ k, k < m → wantN g k ≠ 0 → ∃ b, b < c ∧ S b ∧ loafP g b k = some (p k)
  le : litSum lights S c + sumN (fun k => wantN g k * p k) m ≤ v
theorem litSum_add {lights : Nat → Int} (hl : ∀ b, 0 ≤ lights b) {S : Nat → Prop} {b c : Nat} (hb : b < c) : litSum lights (fun x => S x ∨ x = b) c ≤ litSum lights S c + lights b := by
  have e2 := sumN_one (L := lights) c hb
  rw [← e2]
  unfold litSum
  rw [← sumN_add]
  refine sumN_le _ fun k hk => ?_
  have lk := hl k
  dsimp only
  by_cases e3 : k = b
  · rw [if_pos (show S k ∨ k = b from .inr e3), if_pos e3]
    split <;> omega
  · by_cases e4 : S k
    · rw [if_pos (show S k ∨ k = b from .inl e4), if_pos e4, if_neg e3]
      omega
    · rw [if_neg (show ¬ (S k ∨ k = b) from fun z => z.elim e4 e3), if_neg e4, if_neg e3]
      omega
theorem any_cov {g : Good} {lights ar : Nat → Int} {c n : Nat} (h : IsAny g lights ar c n) (hl : ∀ b, 0 ≤ lights b) (N : NonNegW g.days) : ∀ m, m ≤ n → ∃ (S : Nat → Prop) (p : Nat → Int), Cov g lights c m S p (ar m) := by
  intro m
  induction m using Nat.strongRecOn with
  | ind m ih =>
    intro hm
    cases m with
    | zero =>
      refine ⟨fun _ => False, fun _ => 0, ⟨fun k hk => by omega, ?_⟩⟩
      rw [h.zero]
      have e : litSum lights (fun _ => False) c = 0 := by
        unfold litSum
        exact sumN_zero c fun k _ => if_neg id
      rw [e]
      exact Int.le_refl 0
    | succ m =>
      by_cases hw : wantN g m = 0
      · obtain ⟨S, p, hc⟩ := ih m (by omega) (by omega)
        refine ⟨S, p, ⟨fun k hk wk => hc.ex k ?_ wk, ?_⟩⟩
        · by_cases e : k = m
          · subst e; exact absurd hw wk
          · omega
        · have e := h.unw m (by omega) hw
          have le := hc.le
          show litSum lights S c + (sumN (fun k => wantN g k * p k) m + wantN g m * p m) ≤ _
          rw [hw, Int.zero_mul, Int.add_zero, e]
          exact le
      · obtain ⟨b, f, s, hb, hf, hs, hv⟩ := h.some m (by omega) hw
        obtain ⟨S, p, hc⟩ := ih f (by omega) (by omega)
        obtain ⟨q, q1, q2⟩ := segP_sum hs
        have ey : ∀ k, ∃ y : Int, f ≤ k → k < m + 1 → wantN g k ≠ 0 → loafP g b k = some y ∧ q k = wantN g k * y := by
          intro k
          by_cases hk : f ≤ k ∧ k < m + 1 ∧ wantN g k ≠ 0
          · have e := q1 (k - f) (by omega)
            rw [show f + (k - f) = k by omega] at e
            rcases wantP_inv e with ⟨e1, _⟩ | ⟨y, e1, e2⟩
            · exact absurd e1 hk.2.2
            · exact ⟨y, fun _ _ _ => ⟨e1, e2⟩⟩
          · exact ⟨0, fun h1 h2 h3 => absurd ⟨h1, h2, h3⟩ hk⟩
        let py : Nat → Int := fun k => Classical.choose (ey k)
        have hpy : ∀ k, f ≤ k → k < m + 1 → wantN g k ≠ 0 → loafP g b k = some (py k) ∧ q k = wantN g k * py k := fun k => Classical.choose_spec (ey k)
        refine ⟨fun x => S x ∨ x = b, fun k => if k < f then p k else py k, ⟨fun k hk wk => ?_, ?_⟩⟩
        · by_cases hkf : k < f
          · obtain ⟨b', h1, h2, h3⟩ := hc.ex k hkf wk
            exact ⟨b', h1, .inl h2, by rw [if_pos hkf]; exact h3⟩
          · exact ⟨b, hb, .inr rfl, by rw [if_neg hkf]; exact (hpy k (by omega) hk wk).1⟩
        · have l1 := litSum_add hl (S := S) hb
          have spl := sumN_split (fun k => wantN g k * (if k < f then p k else py k)) f (m + 1 - f)
          rw [show f + (m + 1 - f) = m + 1 by omega] at spl
          have w1 : sumN (fun k => wantN g k * (if k < f then p k else py k)) f = sumN (fun k => wantN g k * p k) f := sumN_congr f fun k hk => by
            rw [if_pos hk]
          have w2 : sumN (fun i => wantN g (f + i) * (if f + i < f then p (f + i) else py (f + i))) (m + 1 - f) ≤ s := by
            rw [q2]
            refine sumN_le _ fun i hi => ?_
            rw [if_neg (by omega)]
            by_cases ew : wantN g (f + i) = 0
            · rw [ew, Int.zero_mul]
              exact wantP_nonneg N (q1 i hi)
            · rw [(hpy (f + i) (by omega) (by omega) ew).2]
              exact Int.le_refl _
          have le := hc.le
          omega
/-- a cover of all days costs no less than the row tells -/
theorem row_le_cov {g : Good} {lights row : Nat → Int} {n : Nat} (hr : IsRow g lights row n) (hn : n ≤ g.days.length) (hl : ∀ b, 0 ≤ lights b) (N : NonNegW g.days) (hlf : ∀ l, g.life = some l → 0 ≤ l) {S : Nat → Prop} {p : Nat → Int} {v : Int} (h : Cov g lights n n S p v) : row n ≤ v := by
  have ex : ∀ k, ∃ z, k < n → wantN g k ≠ 0 → MinP g S n k z := by
    intro k
    by_cases hk : k < n ∧ wantN g k ≠ 0
    · obtain ⟨b, h1, h2, h3⟩ := h.ex k hk.1 hk.2
      obtain ⟨z, hz⟩ := exists_min (g := g) (S := S) (k := k) n ⟨b, _, h1, h2, h3⟩
      exact ⟨z, fun _ _ => hz⟩
    · exact ⟨0, fun h1 h2 => absurd ⟨h1, h2⟩ hk⟩
  let p' : Nat → Int := fun k => Classical.choose (ex k)
  have hp' : ∀ k, k < n → wantN g k ≠ 0 → MinP g S n k (p' k) := fun k => Classical.choose_spec (ex k)
  have a := row_le_set hr hn hl N hlf n (Nat.le_refl n) S p' _ ⟨hp', rfl⟩
  have w : sumN (fun k => wantN g k * p' k) n ≤ sumN (fun k => wantN g k * p k) n := sumN_le n fun k hk => by
    by_cases e : wantN g k = 0
    · rw [e, Int.zero_mul, Int.zero_mul]
      exact Int.le_refl 0
    · obtain ⟨b, h1, h2, h3⟩ := h.ex k hk e
      exact Int.mul_le_mul_of_nonneg_left ((hp' k hk e).le b h1 h2 _ h3) (wantN_nonneg N k)
  have le := h.le
  omega
theorem any_eq_row {g : Good} {lights ar row : Nat → Int} {n : Nat} (h : IsAny g lights ar n n) (hr : IsRow g lights row n) (hn : n ≤ g.days.length) (hl : ∀ b, 0 ≤ lights b) (N : NonNegW g.days) (hlf : ∀ l, g.life = some l → 0 ≤ l) : ar n = row n := by
  have a := any_le_row h hr (Nat.le_refl n) hn hl n (Nat.le_refl n)
  obtain ⟨S, p, hc⟩ := any_cov h hl N n (Nat.le_refl n)
  have b := row_le_cov hr hn hl N hlf hc
  omega
/-! ### prices that are let by -/
/-- by the document's words: whatever day of baking, whatever stretch -/
def Lets (g : Good) (lights pr : Nat → Int) (n : Nat) : Prop := ∀ b f m s, b < n → f + m ≤ n → segP (wantP g b) f m = some s → sumN (fun i => pr (f + i)) m ≤ lights b + s
theorem sumN_tele (r : Nat → Int) (f : Nat) : ∀ m, sumN (fun i => r (f + i + 1) - r (f + i)) m = r (f + m) - r f
  | 0 => by show (0 : Int) = r (f + 0) - r f; rw [Nat.add_zero]; omega
  | m + 1 => by
    show sumN (fun i => r (f + i + 1) - r (f + i)) m + (r (f + m + 1) - r (f + m)) = _
    rw [sumN_tele r f m, show f + (m + 1) = f + m + 1 by omega]
    omega
theorem any_prices {g : Good} {lights ar : Nat → Int} {n : Nat} (h : IsAny g lights ar n n) (hn : n ≤ g.days.length) (hl : ∀ b, 0 ≤ lights b) : Lets g lights (fun k => ar (k + 1) - ar k) n := by
  intro b f m s hb hm hs
  have a := any_lets h hn hl hb m s hm hs
  have e := sumN_tele ar f m
  show sumN (fun i => ar (f + i + 1) - ar (f + i)) m ≤ _
  rw [e]
  omega
end Bk

namespace Bk
open PySem PySem.Spec PyProof.Rows L2
/-! ### lists of larger ints, shown -/
theorem log40 {n : Nat} (h : n < 10 ^ 40) : n.log2 < 140 := by
  by_cases h0 : n = 0
  · subst h0
    decide
  · exact (Nat.log2_lt h0).mpr (Nat.lt_of_lt_of_le h (by decide))
theorem ints_facts : ∀ ns : List Int, (∀ z ∈ ns, z.natAbs < 10 ^ 40) → PyData.hasDictAll (ns.map PyData.int) = false ∧ PyData.showableAll (ns.map PyData.int) = true ∧ PyData.leavesShortAll 41 (ns.map PyData.int) = true ∧ PyData.weightAll (ns.map PyData.int) ≤ ns.length * 141
  | [], _ => by simp only [List.map, PyData.hasDictAll, PyData.showableAll, PyData.leavesShortAll, PyData.weightAll, and_self, true_and, List.length_nil, Nat.zero_mul, Nat.le_refl]
  | n :: r, h => by
    obtain ⟨h1, h2, h3, h4⟩ := ints_facts r fun z hz => h z (List.mem_cons_of_mem _ hz)
    have hn := h n List.mem_cons_self
    have hg := log40 hn
    have e : (PyData.shown (.int n)).length ≤ 41 := by
      have e := int_text_length_le10 (k := 40) (by decide) hn
      show (Str.ofString (toString n)).length ≤ 41
      rw [PySem.ofString_length]
      exact e
    refine ⟨?_, ?_, ?_, ?_⟩
    · simp only [List.map, PyData.hasDictAll, PyData.hasDict, h1, Bool.or_self]
    · simp only [List.map, PyData.showableAll, PyData.showable, h2, Bool.and_true, decide_eq_true_eq]
      omega
    · simp only [List.map, PyData.leavesShortAll, PyData.leavesShort, h3, Bool.and_true, decide_eq_true_eq]
      exact e
    · simp only [List.map, PyData.weightAll, PyData.weight, List.length_cons, Nat.add_mul, Nat.one_mul]
      split <;> omega
theorem shows_ints {ns : List Int} (h : ∀ z ∈ ns, z.natAbs < 10 ^ 40) (hl : ns.length ≤ 1000) : Shows (.list (ns.map PyData.int)) := by
  obtain ⟨h1, h2, h3, h4⟩ := ints_facts ns h
  refine ⟨by simp only [PyData.hasDict, h1], by simp only [PyData.showable, h2], by simp only [PyData.depth, depth_ints]; decide, ?_⟩
  have e := PyData.shown_le 41 (by decide) (.list (ns.map PyData.int)) (by simp only [PyData.leavesShort, h3])
  have w : (PyData.list (ns.map PyData.int)).weight ≤ 141000 := by
    simp only [PyData.weight]
    have : ns.length * 141 ≤ 1000 * 141 := Nat.mul_le_mul_right _ hl
    omega
  rw [sizeLine_eq]
  have : (41 + 2) * (PyData.list (ns.map PyData.int)).weight ≤ 43 * 141000 := Nat.mul_le_mul (by decide) w
  omega
/-! ### the row anywhere, number by number -/
theorem ChC.congr {row row' lights : Nat → Int} {w : Nat → Nat → Option Int} {c m : Nat} {v : Int} (e : ∀ f, f ≤ m → row f = row' f) (h : ChC row lights w c m v) : ChC row' lights w c m v := by
  obtain ⟨b, f, s, hb, hf, hs, hv⟩ := h
  exact ⟨b, f, s, hb, hf, hs, by rw [← e f hf]; exact hv⟩
theorem IsAny.init (g : Good) (lights : Nat → Int) (c : Nat) : IsAny g lights (rowF [0]) c 0 := ⟨rfl, fun m h => by omega, fun m h => by omega, fun m h => by omega⟩
theorem IsAny.snoc {g : Good} {lights : Nat → Int} {rs : List Int} {c n : Nat} {v : Int} (h : IsAny g lights (rowF rs) c n) (hl : rs.length = n + 1) (h0 : wantN g n = 0 → v = rowF rs n) (h1 : wantN g n ≠ 0 → ChC (rowF rs) lights (wantP g) c n v ∧ ∀ u, ChC (rowF rs) lights (wantP g) c n u → v ≤ u) :
    IsAny g lights (rowF (rs ++ [v])) c (n + 1) := by
  have e : ∀ f, f ≤ n → rowF rs f = rowF (rs ++ [v]) f := fun f hf => (rowF_snoc (by omega)).symm
  have e' : ∀ f, f ≤ n → rowF (rs ++ [v]) f = rowF rs f := fun f hf => rowF_snoc (by omega)
  have el : rowF (rs ++ [v]) (n + 1) = v := rowF_last hl
  refine ⟨by rw [e' 0 (by omega)]; exact h.zero, fun m hm hw => ?_, fun m hm hw => ?_, fun m hm hw u hu => ?_⟩
  · by_cases hlt : m < n
    · rw [e' (m + 1) (by omega), e' m (by omega)]
      exact h.unw m hlt hw
    · have : m = n := by omega
      subst this
      rw [el, e' m (by omega)]
      exact h0 hw
  · by_cases hlt : m < n
    · rw [e' (m + 1) (by omega)]
      exact (h.some m hlt hw).congr fun f hf => e f (by omega)
    · have : m = n := by omega
      subst this
      rw [el]
      exact (h1 hw).1.congr e
  · by_cases hlt : m < n
    · rw [e' (m + 1) (by omega)]
      exact h.least m hlt hw u (hu.congr fun f hf => e' f (by omega))
    · have : m = n := by omega
      subst this
      rw [el]
      exact (h1 hw).2 u (hu.congr e')
theorem IsAny.ext {g : Good} {lights ar ar' : Nat → Int} {c n : Nat} (h : IsAny g lights ar c n) (h' : IsAny g lights ar' c n) : ∀ m, m ≤ n → ar m = ar' m := by
  intro m
  induction m using Nat.strongRecOn with
  | ind m ih =>
    intro hm
    cases m with
    | zero => rw [h.zero, h'.zero]
    | succ m =>
      by_cases hw : wantN g m = 0
      · rw [h.unw m (by omega) hw, h'.unw m (by omega) hw]
        exact ih m (by omega) (by omega)
      · have e : ∀ f, f ≤ m → ar f = ar' f := fun f hf => ih f (by omega) (by omega)
        have a := h.least m (by omega) hw _ ((h'.some m (by omega) hw).congr fun f hf => (e f hf).symm)
        have b := h'.least m (by omega) hw _ ((h.some m (by omega) hw).congr e)
        omega
theorem any_bounds {g : Good} {lights ar : Nat → Int} {c n : Nat} (h : IsAny g lights ar c n) (hn : n ≤ g.days.length) (hc : n ≤ c) (hl : ∀ b, 0 ≤ lights b) (hu : ∀ b, lights b ≤ 1000000000) (hok : ∀ d ∈ g.days, dayB (dayD d) = true) (hlf : ∀ l, g.life = some l → 0 ≤ l) : ∀ m, m ≤ n → 0 ≤ ar m ∧ ar m ≤ (m : Int) * 2000000000000000000 := by
  have N := nonNegW_of hok
  intro m
  induction m using Nat.strongRecOn with
  | ind m ih =>
    intro hm
    cases m with
    | zero => rw [h.zero]; omega
    | succ m =>
      obtain ⟨i1, i2⟩ := ih m (by omega) (by omega)
      by_cases hw : wantN g m = 0
      · rw [h.unw m (by omega) hw]
        omega
      · have hd : g.days[m]? = some g.days[m] := List.getElem?_eq_getElem (by omega)
        have hdb := hok _ (List.mem_of_getElem? hd)
        generalize g.days[m] = d at hd hdb
        have a := h.least m (by omega) hw _ (own_chC (show m < c by omega) hd hlf)
        obtain ⟨b, f, s, hb, hf, hs, hv⟩ := h.some m (by omega) hw
        have j1 := (ih f (by omega) (by omega)).1
        have j2 := segP_nonneg (fun k z e => wantP_nonneg N e) hs
        have j3 := hl b
        have j4 := hu m
        simp only [dayD, dayB, Bool.and_eq_true] at hdb
        have k1 := hdb.1.1.1
        have k2 := hdb.1.1.2
        simp only [numD, Bool.and_eq_true, decide_eq_true_eq] at k1 k2
        have k3 : d.want * d.loaf ≤ 1000000000 * 1000000000 := Int.mul_le_mul k1.2 k2.2 k2.1 (by omega)
        omega
/-- the steps of the row anywhere, as told prices -/
structure IsPrices (g : Good) (lights : Nat → Int) (ps : List Int) (n : Nat) : Prop where
  len : ps.length = n
  row : ∃ ar, IsAny g lights ar n n ∧ ∀ k, k < n → rowF ps k = ar (k + 1) - ar k
theorem IsPrices.ext {g : Good} {lights : Nat → Int} {ps ps' : List Int} {n : Nat} (h : IsPrices g lights ps n) (h' : IsPrices g lights ps' n) : ps = ps' := by
  obtain ⟨ar, h1, h2⟩ := h.row
  obtain ⟨ar', h3, h4⟩ := h'.row
  have e := h1.ext h3
  apply List.ext_getElem
  · rw [h.len, h'.len]
  · intro i hi hi'
    have a := h2 i (by rw [← h.len]; exact hi)
    have b := h4 i (by rw [← h.len]; exact hi)
    rw [e (i + 1) (by have := h.len; omega), e i (by have := h.len; omega)] at a
    unfold rowF at a b
    rw [List.getD_eq_getElem?_getD, List.getElem?_eq_getElem hi] at a
    rw [List.getD_eq_getElem?_getD, List.getElem?_eq_getElem hi'] at b
    simp only [Option.getD_some] at a b
    omega
theorem sum_rowF : ∀ ns : List Int, ns.sum = sumN (rowF ns) ns.length
  | ns => by
    have key : ∀ k, k ≤ ns.length → (ns.take k).sum = sumN (rowF ns) k := by
      intro k
      induction k with
      | zero => intro _; rfl
      | succ k ih =>
        intro hk
        have hlt : k < ns.length := hk
        show _ = sumN (rowF ns) k + rowF ns k
        rw [← ih (by omega), List.take_add_one, List.getElem?_eq_getElem hlt, Option.toList_some, sum_append', List.sum_cons, List.sum_nil, Int.add_zero]
        congr 1
        unfold rowF
        rw [List.getD_eq_getElem?_getD, List.getElem?_eq_getElem hlt]
        rfl
    have := key ns.length (Nat.le_refl _)
    rw [List.take_length] at this
    exact this
theorem IsPrices.facts {g : Good} {lights : Nat → Int} {ps : List Int} {n : Nat} (h : IsPrices g lights ps n) (hn : n ≤ g.days.length) (hl : ∀ b, 0 ≤ lights b) (hu : ∀ b, lights b ≤ 1000000000) (hok : ∀ d ∈ g.days, dayB (dayD d) = true) (hlf : ∀ l, g.life = some l → 0 ≤ l) :
    Lets g lights (rowF ps) n ∧ (∀ k, k < n → wantN g k = 0 → rowF ps k = 0) ∧ (∀ row, IsRow g lights row n → ps.sum = row n) ∧ (n ≤ 1000 → ∀ z ∈ ps, z.natAbs < 10 ^ 40) := by
  obtain ⟨ar, h1, h2⟩ := h.row
  have N := nonNegW_of hok
  refine ⟨fun b f m s hb hm hs => ?_, fun k hk hw => ?_, fun row hr => ?_, fun hn1 z hz => ?_⟩
  · have a := any_prices h1 hn hl b f m s hb hm hs
    rw [sumN_congr (f' := fun i => ar (f + i + 1) - ar (f + i)) m fun i hi => h2 (f + i) (by omega)]
    exact a
  · rw [h2 k hk, h1.unw k hk hw]
    omega
  · rw [sum_rowF, h.len, sumN_congr (f' := fun i => ar (0 + i + 1) - ar (0 + i)) n fun i hi => by rw [h2 i hi, Nat.zero_add], sumN_tele, Nat.zero_add, h1.zero, any_eq_row h1 hr hn hl N hlf]
    omega
  · obtain ⟨i, hi, e⟩ := List.mem_iff_getElem.mp hz
    have hin : i < n := by rw [← h.len]; exact hi
    have a := h2 i hin
    unfold rowF at a
    rw [List.getD_eq_getElem?_getD, List.getElem?_eq_getElem hi, e] at a
    simp only [Option.getD_some] at a
    obtain ⟨b1, b2⟩ := any_bounds h1 hn (Nat.le_refl n) hl hu hok hlf i (by omega)
    obtain ⟨b3, b4⟩ := any_bounds h1 hn (Nat.le_refl n) hl hu hok hlf (i + 1) (by omega)
    have c1 : (i : Int) * 2000000000000000000 ≤ 1000 * 2000000000000000000 := Int.mul_le_mul_of_nonneg_right (by omega) (by omega)
    have c2 : ((i + 1 : Nat) : Int) * 2000000000000000000 ≤ 1000 * 2000000000000000000 := Int.mul_le_mul_of_nonneg_right (by omega) (by omega)
    have : z.natAbs ≤ 2000000000000000000000 := by omega
    exact Nat.lt_of_le_of_lt this (by decide)
theorem cutV_from (xs : List V) (i : Nat) : cutV xs (some (i : Int)) none = xs.drop i := by
  unfold cutV
  rw [HT.sIx_nat]
  show (xs.drop (min i xs.length)).take (xs.length - min i xs.length) = xs.drop i
  by_cases hi : i ≤ xs.length
  · rw [Nat.min_eq_left hi, List.take_of_length_le (by rw [List.length_drop]; omega)]
  · rw [Nat.min_eq_right (by omega), List.drop_of_length_le (Nat.le_refl _), List.drop_of_length_le (show xs.length ≤ i by omega), List.take_nil]
end Bk

namespace Bk
open PySem PySem.Spec PyProof.Rows L2
/-! ### by how much the prices of stretches that end with a day are more than they cost -/
def kad (w : Nat → Option Int) (pr : Nat → Int) : Nat → Int
  | 0 => 0
  | k + 1 => match w k with
    | none => 0
    | some c => if kad w pr k + pr k - c > 0 then kad w pr k + pr k - c else 0
theorem kad_nonneg (w : Nat → Option Int) (pr : Nat → Int) : ∀ k, 0 ≤ kad w pr k
  | 0 => Int.le_refl 0
  | k + 1 => by
    unfold kad
    cases w k with
    | none => exact Int.le_refl 0
    | some c =>
      dsimp only
      split <;> omega
theorem kad_some {w : Nat → Option Int} {pr : Nat → Int} {k : Nat} {c : Int} (h : w k = some c) : kad w pr (k + 1) = if kad w pr k + pr k - c > 0 then kad w pr k + pr k - c else 0 := by
  show (match w k with
    | none => (0 : Int)
    | some c => if kad w pr k + pr k - c > 0 then kad w pr k + pr k - c else 0) = _
  rw [h]
theorem kad_none {w : Nat → Option Int} {pr : Nat → Int} {k : Nat} (h : w k = none) : kad w pr (k + 1) = 0 := by
  show (match w k with
    | none => (0 : Int)
    | some c => if kad w pr k + pr k - c > 0 then kad w pr k + pr k - c else 0) = _
  rw [h]
theorem kad_ge {w : Nat → Option Int} {pr : Nat → Int} {f : Nat} : ∀ (m : Nat) (s : Int), segP w f m = some s → sumN (fun i => pr (f + i)) m - s ≤ kad w pr (f + m)
  | 0, s, h => by
    rw [segP_zero] at h
    have e := Option.some.inj h
    have := kad_nonneg w pr (f + 0)
    show (0 : Int) - s ≤ _
    omega
  | m + 1, s, h => by
    obtain ⟨x, y, h1, h2, h3⟩ := segP_succ h
    have ih := kad_ge (pr := pr) m x h1
    have e := kad_some (pr := pr) h2
    show sumN (fun i => pr (f + i)) m + pr (f + m) - s ≤ kad w pr (f + m + 1)
    rw [e]
    split <;> omega
theorem kad_ex {w : Nat → Option Int} {pr : Nat → Int} : ∀ k, ∃ f m s, f + m = k ∧ segP w f m = some s ∧ kad w pr k = sumN (fun i => pr (f + i)) m - s
  | 0 => ⟨0, 0, 0, rfl, segP_zero _ _, rfl⟩
  | k + 1 => by
    have z : ∃ f m s, f + m = k + 1 ∧ segP w f m = some s ∧ (0 : Int) = sumN (fun i => pr (f + i)) m - s := ⟨k + 1, 0, 0, rfl, segP_zero _ _, rfl⟩
    cases hw : w k with
    | none =>
      rw [kad_none hw]
      exact z
    | some c =>
      rw [kad_some hw]
      split
      · obtain ⟨f, m, s, h1, h2, h3⟩ := kad_ex (w := w) (pr := pr) k
        refine ⟨f, m + 1, s + c, by omega, segP_add h2 (by rw [h1]; exact hw), ?_⟩
        show _ = sumN (fun i => pr (f + i)) m + pr (f + m) - (s + c)
        rw [h1, h3]
        omega
      · exact z
theorem lets_kad {g : Good} {lights pr : Nat → Int} {n : Nat} : (∀ b, b < n → ∀ k, k ≤ n → kad (wantP g b) pr k ≤ lights b) ↔ Lets g lights pr n := by
  constructor
  · intro h b f m s hb hm hs
    have a := kad_ge (pr := pr) m s hs
    have b' := h b hb (f + m) hm
    omega
  · intro h b hb k hk
    obtain ⟨f, m, s, h1, h2, h3⟩ := kad_ex (w := wantP g b) (pr := pr) k
    have a := h b f m s hb (by omega) h2
    omega
/-- prices of a good's first n days -/
def IsPr (g : Good) (n : Nat) (d : PyData) (ns : List Int) : Prop := d = .list (ns.map PyData.int) ∧ ns.length = n ∧ ∀ k, k < n → wantN g k = 0 → rowF ns k = 0
theorem all_wholeD : ∀ {ds : List PyData}, ds.all wholeD = true → ∃ ns : List Int, ds = ns.map PyData.int
  | [], _ => ⟨[], rfl⟩
  | d :: r, h => by
    rw [List.all_cons, Bool.and_eq_true] at h
    obtain ⟨ns, e⟩ := all_wholeD h.2
    cases d with
    | int i => exact ⟨i :: ns, by rw [e]; rfl⟩
    | _ => cases h.1
theorem wholeD_ints (ns : List Int) : (ns.map PyData.int).all wholeD = true := by
  rw [List.all_eq_true]
  intro x hx
  obtain ⟨i, _, rfl⟩ := List.mem_map.mp hx
  rfl
theorem pyint_inj {ns ms : List Int} (h : ns.map PyData.int = ms.map PyData.int) : ns = ms := by
  induction ns generalizing ms with
  | nil =>
    cases ms with
    | nil => rfl
    | cons m r => cases h
  | cons n r ih =>
    cases ms with
    | nil => cases h
    | cons m t =>
      injection h with h1 h2
      injection h1 with h1
      rw [h1, ih h2]
/-- the days without a want, and whether the prices there are 0 -/
def zeros (g : Good) (ns : List Int) (i : Nat) : List Bool := (List.range i).filterMap fun k => if wantN g k = 0 then some (decide (rowF ns k = 0)) else none
theorem zeros_succ (g : Good) (ns : List Int) (i : Nat) : zeros g ns (i + 1) = zeros g ns i ++ (if wantN g i = 0 then [decide (rowF ns i = 0)] else []) := by
  unfold zeros
  rw [List.range_succ, List.filterMap_append]
  congr 1
  by_cases h : wantN g i = 0
  · rw [if_pos h]
    simp [h]
  · rw [if_neg h]
    simp [h]
theorem zeros_length (g : Good) (ns : List Int) (i : Nat) : (zeros g ns i).length ≤ i := by
  have : (zeros g ns i).length ≤ (List.range i).length := List.length_filterMap_le ..
  rw [List.length_range] at this
  exact this
theorem zeros_all (g : Good) (ns : List Int) (n : Nat) : (zeros g ns n).all id = true ↔ ∀ k, k < n → wantN g k = 0 → rowF ns k = 0 := by
  rw [List.all_eq_true]
  constructor
  · intro h k hk hw
    have := h (decide (rowF ns k = 0)) (List.mem_filterMap.mpr ⟨k, List.mem_range.mpr hk, if_pos hw⟩)
    exact of_decide_eq_true this
  · intro h b hb
    obtain ⟨k, hk, e⟩ := List.mem_filterMap.mp hb
    by_cases hw : wantN g k = 0
    · rw [if_pos hw] at e
      cases e
      exact decide_eq_true (h k (List.mem_range.mp hk) hw)
    · rw [if_neg hw] at e
      cases e
end Bk

namespace Bk
open PySem PySem.Spec PyProof.Rows L2
/-! ### a block cut in two: what holds between the parts -/
section
variable {A1 A2 A3 A4 A5 A6 B : TS} {D : Ends} {σ : L2.St} {H : Hp} (Pm : L2.St → Hp → Prop)
theorem seq1 (hB : ∀ σ' H', Pm σ' H' → B D σ' H') (hA : ∀ N : L2.St → Hp → Prop, (∀ σ' H', Pm σ' H' → N σ' H') → A1 { D with nx := N } σ H) : tSeq A1 B D σ H := hA _ hB
theorem seq2 (hB : ∀ σ' H', Pm σ' H' → B D σ' H') (hA : ∀ N : L2.St → Hp → Prop, (∀ σ' H', Pm σ' H' → N σ' H') → tSeq A1 A2 { D with nx := N } σ H) : tSeq A1 (tSeq A2 B) D σ H := hA _ hB
theorem seq3 (hB : ∀ σ' H', Pm σ' H' → B D σ' H') (hA : ∀ N : L2.St → Hp → Prop, (∀ σ' H', Pm σ' H' → N σ' H') → tSeq A1 (tSeq A2 A3) { D with nx := N } σ H) : tSeq A1 (tSeq A2 (tSeq A3 B)) D σ H := hA _ hB
theorem seq4 (hB : ∀ σ' H', Pm σ' H' → B D σ' H') (hA : ∀ N : L2.St → Hp → Prop, (∀ σ' H', Pm σ' H' → N σ' H') → tSeq A1 (tSeq A2 (tSeq A3 A4)) { D with nx := N } σ H) : tSeq A1 (tSeq A2 (tSeq A3 (tSeq A4 B))) D σ H := hA _ hB
theorem seq5 (hB : ∀ σ' H', Pm σ' H' → B D σ' H') (hA : ∀ N : L2.St → Hp → Prop, (∀ σ' H', Pm σ' H' → N σ' H') → tSeq A1 (tSeq A2 (tSeq A3 (tSeq A4 A5))) { D with nx := N } σ H) : tSeq A1 (tSeq A2 (tSeq A3 (tSeq A4 (tSeq A5 B)))) D σ H := hA _ hB
theorem seq6 (hB : ∀ σ' H', Pm σ' H' → B D σ' H') (hA : ∀ N : L2.St → Hp → Prop, (∀ σ' H', Pm σ' H' → N σ' H') → tSeq A1 (tSeq A2 (tSeq A3 (tSeq A4 (tSeq A5 A6)))) { D with nx := N } σ H) : tSeq A1 (tSeq A2 (tSeq A3 (tSeq A4 (tSeq A5 (tSeq A6 B))))) D σ H := hA _ hB
end
theorem map_set_int (ns : List Int) (j : Nat) (v : Int) : (ns.map V.int).set j (V.int v) = (ns.set j v).map V.int := by rw [List.map_set]
theorem ixN_nat {n j : Nat} (h : j < n) : ixN n (j : Int) = some j := by
  unfold ixN
  rw [if_pos (by omega), if_pos (by omega)]
  rfl
theorem rowF_set {ns : List Int} {j k : Nat} {v : Int} (hk : k < ns.length) : rowF (ns.set j v) k = if j = k then v else rowF ns k := by
  unfold rowF
  rw [List.getD_eq_getElem?_getD, List.getD_eq_getElem?_getD, List.getElem?_set]
  by_cases e : j = k
  · subst e
    rw [if_pos rfl, if_pos hk, if_pos rfl]
    rfl
  · rw [if_neg e, if_neg e]
theorem mem_rowF {ns : List Int} {k : Nat} (hk : k < ns.length) : rowF ns k ∈ ns := by
  unfold rowF
  rw [List.getD_eq_getElem?_getD, List.getElem?_eq_getElem hk]
  exact List.getElem_mem hk
theorem set_bd {ns : List Int} {j : Nat} {v M : Int} (h : ∀ z ∈ ns, -M ≤ z ∧ z ≤ M) (hv : -M ≤ v ∧ v ≤ M) : ∀ z ∈ ns.set j v, -M ≤ z ∧ z ≤ M := by
  intro z hz
  rcases List.mem_or_eq_of_mem_set hz with e | e
  · exact h z e
  · rw [e]
    exact hv
theorem pick3 {a b c i : Int} (h0 : 0 ≤ i) (h1 : i < 3) : ∃ z : Int, atI [V.int a, V.int b, V.int c] i = some (.int z) ∧ (z = a ∨ z = b ∨ z = c) := by
  by_cases e0 : i = 0
  · subst e0
    exact ⟨a, atI_nat (j := 0) rfl, .inl rfl⟩
  · by_cases e1 : i = 1
    · subst e1
      exact ⟨b, atI_nat (j := 1) rfl, .inr (.inl rfl)⟩
    · rw [show i = 2 by omega]
      exact ⟨c, atI_nat (j := 2) rfl, .inr (.inr rfl)⟩
end Bk

namespace Bk
open PySem PySem.Spec PyProof.Rows L2
/-! ### 1 << k -/
def rOne : R2 := fun x y H Q => ∃ k : Nat, x = .int 1 ∧ y = .int (k : Int) ∧ k ≤ 134217727 ∧ Q (.int (2 ^ k)) H
theorem op_oneK {X : Cx} : OpR X (binaryOp .LShift) rOne := op_oneShl
theorem rOne_i {j : Int} {H : Hp} {Q : VK} : rOne (.int 1) (.int j) H Q = ∃ k : Nat, j = (k : Int) ∧ k ≤ 134217727 ∧ Q (.int (2 ^ k)) H := propext ⟨fun ⟨k, _, e2, h⟩ => by cases e2; exact ⟨k, rfl, h⟩, fun ⟨k, e, h⟩ => ⟨k, rfl, by rw [e], h⟩⟩
theorem rIsB_b {a b : Bool} {H : Hp} {Q : VK} : rIsB (.bl a) (.bl b) H Q = Q (.bl (decide (a = b))) H := propext ⟨fun ⟨_, _, e1, e2, h⟩ => by cases e1; cases e2; exact h, fun h => ⟨a, b, rfl, rfl, h⟩⟩
theorem rNotB_b {a b : Bool} {H : Hp} {Q : VK} : rNotB (.bl a) (.bl b) H Q = Q (.bl (!decide (a = b))) H := propext ⟨fun ⟨_, _, e1, e2, h⟩ => by cases e1; cases e2; exact h, fun h => ⟨a, b, rfl, rfl, h⟩⟩
/-! ### dicts whose keys are days -/
def keyN (ns : List Nat) : List Key := ns.map fun n => Sum.inl ((n : Nat) : Int)
theorem keyN_mem {ns : List Nat} {n : Nat} : (Sum.inl ((n : Nat) : Int) : Key) ∈ keyN ns ↔ n ∈ ns := by
  unfold keyN
  rw [List.mem_map]
  constructor
  · rintro ⟨m, hm, e⟩
    injection e with e
    rw [show n = m by omega]
    exact hm
  · intro h
    exact ⟨n, h, rfl⟩
theorem any_key {kvs : List (Key × V)} {k : Key} : (kvs.any fun kv => decide (kv.1 = k)) = true ↔ k ∈ kvs.map (·.1) := by
  rw [List.any_eq_true, List.mem_map]
  constructor
  · rintro ⟨kv, h1, h2⟩
    exact ⟨kv, h1, of_decide_eq_true h2⟩
  · rintro ⟨kv, h1, h2⟩
    exact ⟨kv, h1, decide_eq_true h2⟩
theorem keys_put_in {kvs : List (Key × V)} {k : Key} {v : V} (h : k ∈ kvs.map (·.1)) : (putK kvs k v).map (·.1) = kvs.map (·.1) := by
  unfold putK
  rw [if_pos (any_key.mpr h), List.map_map]
  apply List.map_congr_left
  intro kv _
  show (if kv.1 = k then (kv.1, v) else kv).1 = kv.1
  split <;> rfl
theorem keys_put_new {kvs : List (Key × V)} {k : Key} {v : V} (h : k ∉ kvs.map (·.1)) : (putK kvs k v).map (·.1) = kvs.map (·.1) ++ [k] := by
  unfold putK
  rw [if_neg (fun z => h (any_key.mp z)), List.map_append]
  rfl
def addN (ns : List Nat) (n : Nat) : List Nat := if n ∈ ns then ns else ns ++ [n]
theorem keyN_put {kvs : List (Key × V)} {ns : List Nat} {n : Nat} {v : V} (h : kvs.map (·.1) = keyN ns) : (putK kvs (Sum.inl (n : Int)) v).map (·.1) = keyN (addN ns n) := by
  unfold addN
  by_cases e : n ∈ ns
  · rw [keys_put_in (by rw [h]; exact keyN_mem.mpr e), h, if_pos e]
  · rw [keys_put_new (by rw [h]; exact fun z => e (keyN_mem.mp z)), h, if_neg e]
    unfold keyN
    rw [List.map_append]
    rfl
theorem addN_mem {ns : List Nat} {n m : Nat} : m ∈ addN ns n ↔ m ∈ ns ∨ m = n := by
  unfold addN
  split
  · rename_i h
    exact ⟨.inl, fun z => z.elim id fun e => by rw [e]; exact h⟩
  · rw [List.mem_append, List.mem_singleton]
theorem addN_nodup {ns : List Nat} {n : Nat} (h : ns.Nodup) : (addN ns n).Nodup := by
  unfold addN
  split
  · exact h
  · rename_i hn
    rw [List.nodup_append]
    refine ⟨h, by simp, fun a ha b hb => ?_⟩
    rw [List.mem_singleton.mp hb]
    intro e
    rw [e] at ha
    exact hn ha
/-- the lights of different days, summed -/
theorem litSum_nodup (L : Nat → Int) (n : Nat) : ∀ ns : List Nat, ns.Nodup → (∀ m ∈ ns, m < n) → (ns.map L).sum = litSum L (fun m => m ∈ ns) n
  | [], _, _ => by
    have e : litSum L (fun m => m ∈ ([] : List Nat)) n = 0 := by
      unfold litSum
      exact sumN_zero n fun k _ => if_neg (by simp)
    rw [e]
    rfl
  | b :: r, h, hb => by
    have ih := litSum_nodup L n r (List.nodup_cons.mp h).2 fun m hm => hb m (List.mem_cons_of_mem _ hm)
    have e2 := sumN_one (L := L) n (hb b List.mem_cons_self)
    rw [List.map_cons, List.sum_cons, ih, ← e2]
    unfold litSum
    rw [← sumN_add]
    refine sumN_congr _ fun k hk => ?_
    dsimp only
    by_cases e : k = b
    · subst e
      rw [if_pos rfl, if_neg (List.nodup_cons.mp h).1, if_pos List.mem_cons_self]
      omega
    · rw [if_neg e]
      by_cases e3 : k ∈ r
      · rw [if_pos e3, if_pos (List.mem_cons_of_mem _ e3)]
        omega
      · rw [if_neg e3, if_neg fun z => (List.mem_cons.mp z).elim e e3]
        omega
theorem nodup_len {n : Nat} {ns : List Nat} (h : ns.Nodup) (hb : ∀ m ∈ ns, m < n) : ns.length ≤ n := by
  have e := litSum_nodup (fun _ => 1) n ns h hb
  have e1 : (ns.map fun _ => (1 : Int)).sum = (ns.length : Int) := by
    clear e h hb
    induction ns with
    | nil => rfl
    | cons a r ih =>
      rw [List.map_cons, List.sum_cons, ih, List.length_cons]
      omega
  have e2 : litSum (fun _ => 1) (fun m => m ∈ ns) n ≤ (n : Int) := by
    have a : sumN (fun _ => (1 : Int)) n = (n : Int) := by
      clear e e1 h hb
      induction n with
      | zero => rfl
      | succ n ih =>
        show sumN (fun _ => (1 : Int)) n + 1 = _
        rw [ih]
        omega
    rw [← a]
    unfold litSum
    exact sumN_le n fun k _ => by dsimp only; split <;> omega
  omega
theorem litSum_congr {L : Nat → Int} {S S' : Nat → Prop} {n : Nat} (h : ∀ k, k < n → (S k ↔ S' k)) : litSum L S n = litSum L S' n := by
  unfold litSum
  refine sumN_congr _ fun k hk => ?_
  by_cases e : S k
  · rw [if_pos e, if_pos ((h k hk).mp e)]
  · rw [if_neg e, if_neg fun z => e ((h k hk).mpr z)]
/-- a permutation of days, as ints, is a list of days -/
theorem perm_days {ys : List Int} {ns : List Nat} (h : ys.Perm (ns.map fun n => ((n : Nat) : Int))) : ∃ ms : List Nat, ys = ms.map (fun n => ((n : Nat) : Int)) ∧ ms.Perm ns := by
  refine ⟨ys.map Int.toNat, ?_, ?_⟩
  · rw [List.map_map]
    have : ∀ y ∈ ys, ((Int.toNat y : Nat) : Int) = y := fun y hy => by
      obtain ⟨n, _, e⟩ := List.mem_map.mp (h.mem_iff.mp hy)
      omega
    have e : ys.map ((fun n => ((n : Nat) : Int)) ∘ Int.toNat) = ys.map id := List.map_congr_left fun y hy => this y hy
    rw [e, List.map_id]
  · have := h.map Int.toNat
    rw [List.map_map] at this
    have e : ns.map (Int.toNat ∘ fun n => ((n : Nat) : Int)) = ns := by
      have : ns.map (Int.toNat ∘ fun n => ((n : Nat) : Int)) = ns.map id := List.map_congr_left fun n _ => by show Int.toNat (n : Int) = n; omega
      rw [this, List.map_id]
    rw [e] at this
    exact this
/-- there is a row of least costs -/
theorem exists_min_int {P : Int → Prop} {lo : Int} (hlo : ∀ v, P v → lo ≤ v) (h : ∃ v, P v) : ∃ v, P v ∧ ∀ u, P u → v ≤ u := by
  obtain ⟨v, hv⟩ := h
  obtain ⟨n, hn, hmin⟩ := exists_least (P := fun n : Nat => P (lo + (n : Int))) ⟨(v - lo).toNat, by
    have := hlo v hv
    show P (lo + ((v - lo).toNat : Int))
    rw [show lo + ((v - lo).toNat : Int) = v by omega]
    exact hv⟩
  refine ⟨_, hn, fun u hu => ?_⟩
  have hl := hlo u hu
  by_cases e : lo + (n : Int) ≤ u
  · exact e
  · exfalso
    refine hmin (u - lo).toNat (by omega) ?_
    show P (lo + ((u - lo).toNat : Int))
    rw [show lo + ((u - lo).toNat : Int) = u by omega]
    exact hu
theorem row_exists (g : Good) (lights : Nat → Int) : ∀ (n : Nat), n ≤ g.days.length → (∀ l, g.life = some l → 0 ≤ l) → (∀ b, 0 ≤ lights b) → NonNegW g.days → ∃ row, IsRow g lights row n ∧ ∀ m, m ≤ n → 0 ≤ row m
  | 0, _, _, _, _ => ⟨fun _ => 0, ⟨rfl, fun m h => by omega, fun m h => by omega⟩, fun m _ => Int.le_refl 0⟩
  | n + 1, hn, hl, hp, N => by
    obtain ⟨row, hR, h0⟩ := row_exists g lights n (by omega) hl hp N
    have hd : g.days[n]? = some g.days[n] := List.getElem?_eq_getElem (by omega)
    have ch := own_choice (lights := lights) (row := row) hd hl
    have lo : ∀ v, Choice g lights row n v → 0 ≤ v := by
      rintro v (⟨b, f, s, hb, hf, hs, hv⟩ | ⟨_, hv⟩)
      · have a1 := h0 f hf
        have a2 := hp b
        have a3 := segP_nonneg (fun k z e => wantP_nonneg N e) hs
        omega
      · rw [hv]
        exact h0 n (Nat.le_refl n)
    obtain ⟨v, hv, hmin⟩ := exists_min_int lo ⟨_, ch⟩
    obtain ⟨row', e, el⟩ : ∃ row' : Nat → Int, (∀ f, f ≤ n → row' f = row f) ∧ row' (n + 1) = v := ⟨fun k => if k = n + 1 then v else row k, fun f hf => if_neg (by omega), if_pos rfl⟩
    refine ⟨row', ⟨?_, fun m hm => ?_, fun m hm u hu => ?_⟩, fun m hm => ?_⟩
    · rw [e 0 (by omega)]
      exact hR.zero
    · by_cases hmn : m = n
      · subst hmn
        rw [el]
        exact hv.congr fun f hf => (e f hf).symm
      · rw [e (m + 1) (by omega)]
        exact (hR.some m (by omega)).congr fun f hf => (e f (by omega)).symm
    · by_cases hmn : m = n
      · subst hmn
        rw [el]
        exact hmin u (hu.congr fun f hf => e f hf)
      · rw [e (m + 1) (by omega)]
        exact hR.least m (by omega) u (hu.congr fun f hf => e f (by omega))
    · by_cases hmn : m = n + 1
      · rw [hmn, el]
        exact lo v hv
      · rw [e m (by omega)]
        exact h0 m (by omega)
theorem rSetD_r {p : Addr} {k : Int} {v : V} {H : Hp} {Q : Hp → Prop} {kvs : List (Key × V)} (h : H p = some (.dK kvs)) (hl : kvs.length < sizeLine) (q : Q (upd H p (.dK (putK kvs (.inl k) v)))) : rSetD (.ref p) (.int k) v H Q := ⟨p, _, rfl, DPut.k (k := .inl k) h hl, q⟩
def rSorD : List V → Hp → VK → Prop := fun xs H Q => ∃ (a : Addr) (kvs : List (Key × V)) (ks : List Int), xs = [.ref a] ∧ Rd H a (.dK kvs) ∧ kvs.map (·.1) = ks.map Sum.inl ∧ ks.length < 64 ∧ ∀ (ys : List Int) (p : Addr), ys.Perm ks → ys.Pairwise (· ≤ ·) → H p = none → Q (.ref p) (upd H p (.lst (ys.map V.int)))
theorem cr_sorD {X : Cx} (hc : X.calm = true) : CallR X (.builtin "sorted") rSorD := call_sortedDI hc
theorem rSorD_r {p : Addr} {H : Hp} {Q : VK} : rSorD [.ref p] H Q = ∃ (kvs : List (Key × V)) (ks : List Int), Rd H p (.dK kvs) ∧ kvs.map (·.1) = ks.map Sum.inl ∧ ks.length < 64 ∧ ∀ (ys : List Int) (q : Addr), ys.Perm ks → ys.Pairwise (· ≤ ·) → H q = none → Q (.ref q) (upd H q (.lst (ys.map V.int))) :=
  propext ⟨fun ⟨_, kvs, ks, e, h⟩ => by cases e; exact ⟨kvs, ks, h⟩, fun ⟨kvs, ks, h⟩ => ⟨p, kvs, ks, rfl, h⟩⟩
end Bk

namespace Bk
open PySem PySem.Spec PyProof.Rows L2
/-! ### steady bakeries -/
structure Steady (g : Good) : Prop where
  nofine : ∀ d ∈ g.days, d.fine = none
  never : ∀ k d e, g.days[k]? = some d → g.days[k + 1]? = some e → e.loaf ≤ d.loaf + d.keep
theorem keepsL_zero (ds : List Day) (k : Nat) : keepsL ds k k = 0 := by
  unfold keepsL
  rw [Nat.sub_self]
  rfl
theorem keepsL_head {ds : List Day} {b k : Nat} {d : Day} (hb : ds[b]? = some d) (hk : b < k) : keepsL ds b k = d.keep + keepsL ds (b + 1) k := by
  unfold keepsL
  obtain ⟨hi, e⟩ := List.getElem?_eq_some_iff.mp hb
  rw [List.drop_eq_getElem_cons hi, e, show k - b = (k - (b + 1)) + 1 by omega, List.take_succ_cons, List.map_cons, List.sum_cons]
/-- a loaf baked later, for a day behind both, costs no more -/
theorem loaf_later {g : Good} (S : Steady g) {k : Nat} (hk : k < g.days.length) : ∀ (n b : Nat), b + n ≤ k → ∀ z, loafP g b k = some z → ∃ y, loafP g (b + n) k = some y ∧ y ≤ z
  | 0, b, _, z, h => ⟨z, h, Int.le_refl z⟩
  | n + 1, b, hn, z, h => by
    have hd : g.days[b]? = some g.days[b] := List.getElem?_eq_getElem (by omega)
    have he : g.days[b + 1]? = some g.days[b + 1] := List.getElem?_eq_getElem (by omega)
    have st := S.never b _ _ hd he
    generalize g.days[b] = d at hd st
    generalize g.days[b + 1] = e at he st
    have step : ∃ y, loafP g (b + 1) k = some y ∧ y ≤ z := by
      obtain ⟨x, hx, hxz⟩ := loafP_ext' hd h
      obtain ⟨hl, hkp⟩ := (ext_keep (show b ≤ k by omega)).mp hx
      have e2 : extP g (b + 1) k = some (keepsL g.days (b + 1) k) := (ext_keep (show b + 1 ≤ k by omega)).mpr ⟨fun l hl' => by have := hl l hl'; omega, rfl⟩
      refine ⟨e.loaf + keepsL g.days (b + 1) k, by rw [loafP_ext he, e2]; rfl, ?_⟩
      have := keepsL_head hd (show b < k by omega)
      omega
    obtain ⟨y, hy, hyz⟩ := step
    obtain ⟨y2, hy2, h2⟩ := loaf_later S hk n (b + 1) (by omega) y hy
    exact ⟨y2, by rw [show b + (n + 1) = b + 1 + n by omega]; exact hy2, by omega⟩
theorem want_later {g : Good} (S : Steady g) (N : NonNegW g.days) {b c k : Nat} (hk : k < g.days.length) (hbc : b ≤ c) (hck : c ≤ k) {z : Int} (h : wantP g b k = some z) : ∃ y, wantP g c k = some y ∧ y ≤ z := by
  by_cases hw : wantN g k = 0
  · rw [wantP_unw hk hw] at h ⊢
    exact ⟨_, h, Int.le_refl _⟩
  · rcases wantP_inv h with ⟨e, _⟩ | ⟨y, e1, e2⟩
    · exact absurd e hw
    · obtain ⟨y2, h1, h2⟩ := loaf_later S hk (c - b) b (by omega) y e1
      rw [show b + (c - b) = c by omega] at h1
      refine ⟨wantN g k * y2, wantP_of hk fun _ => h1, ?_⟩
      rw [e2]
      exact Int.mul_le_mul_of_nonneg_left h2 (wantN_nonneg N k)
theorem seg_later {g : Good} (S : Steady g) (N : NonNegW g.days) {b c f : Nat} (hbc : b ≤ c) (hcf : c ≤ f) : ∀ (m : Nat) (s : Int), f + m ≤ g.days.length → segP (wantP g b) f m = some s → ∃ t, segP (wantP g c) f m = some t ∧ t ≤ s
  | 0, s, _, h => by
    rw [segP_zero] at h
    exact ⟨0, segP_zero _ _, by have := Option.some.inj h; omega⟩
  | m + 1, s, hm, h => by
    obtain ⟨x, y, h1, h2, h3⟩ := segP_succ h
    obtain ⟨t, h4, h5⟩ := seg_later S N hbc hcf m x (by omega) h1
    obtain ⟨u, h6, h7⟩ := want_later S N (show f + m < g.days.length by omega) hbc (by omega) h2
    exact ⟨t + u, segP_add h4 h6, by omega⟩
theorem segP_split {w : Nat → Option Int} {f : Nat} : ∀ (n m : Nat) {s : Int}, segP w f (m + n) = some s → ∃ x y, segP w f m = some x ∧ segP w (f + m) n = some y ∧ s = x + y
  | 0, m, s, h => ⟨s, 0, h, segP_zero _ _, by omega⟩
  | n + 1, m, s, h => by
    obtain ⟨x, y, h1, h2, h3⟩ := segP_succ (show segP w f (m + n + 1) = some s from h)
    obtain ⟨u, v, h4, h5, h6⟩ := segP_split n m h1
    exact ⟨u, v + y, h4, segP_add h5 (by rw [show f + m + n = f + (m + n) by omega]; exact h2), by omega⟩
theorem segP_join {w : Nat → Option Int} {f : Nat} : ∀ (n m : Nat) {x y : Int}, segP w f m = some x → segP w (f + m) n = some y → segP w f (m + n) = some (x + y)
  | 0, m, x, y, h1, h2 => by
    rw [segP_zero] at h2
    have := Option.some.inj h2
    rw [Nat.add_zero, h1]
    congr 1
    omega
  | n + 1, m, x, y, h1, h2 => by
    obtain ⟨u, v, h3, h4, h5⟩ := segP_succ h2
    have := segP_add (segP_join n m h1 h3) (show w (f + (m + n)) = some v by rw [show f + (m + n) = f + m + n by omega]; exact h4)
    rw [show m + (n + 1) = m + n + 1 by omega, this]
    congr 1
    omega
/-- any last stretch may as well begin with the day it is baked on -/
theorem diag {g : Good} {lights row : Nat → Int} {n : Nat} (h : IsRow g lights row n) (hn : n ≤ g.days.length) (hl : ∀ b, 0 ≤ lights b) (N : NonNegW g.days) (S : Steady g) {m : Nat} (hm : m < n) : ∀ (f b : Nat) (s : Int), b ≤ m → f ≤ m → segP (wantP g b) f (m + 1 - f) = some s →
    ∃ d t, d ≤ m ∧ segP (wantP g d) d (m + 1 - d) = some t ∧ row d + lights d + t ≤ row f + lights b + s := by
  intro f
  induction f using Nat.strongRecOn with
  | ind f ih =>
    intro b s hb hf hs
    by_cases hbf : b = f
    · subst hbf
      exact ⟨b, s, hb, hs, Int.le_refl _⟩
    · by_cases hlt : f < b
      · -- what would wait is not wanted
        have e : m + 1 - f = (b - f) + (m + 1 - b) := by omega
        rw [e] at hs
        obtain ⟨x, y, h1, h2, h3⟩ := segP_split _ _ hs
        rw [show f + (b - f) = b by omega] at h2
        have fl := row_flat h (f := f) b (by omega) (by omega) fun k hk1 hk2 => by
          obtain ⟨z, hz⟩ := segP_all h1 (k - f) (by omega)
          rw [show f + (k - f) = k by omega] at hz
          exact wantP_late S.nofine hk2 hz
        have nx := segP_nonneg (fun k z e => wantP_nonneg N e) h1
        exact ⟨b, y, hb, h2, by omega⟩
      · have hbf : b < f := by omega
        obtain ⟨f1, rfl⟩ : ∃ f1, f = f1 + 1 := ⟨f - 1, by omega⟩
        rcases h.some f1 (by omega) with ⟨b', f', s', hb', hf', hs', hv⟩ | ⟨⟨d, hd, hw⟩, hv⟩
        · by_cases hbb : b ≤ b'
          · obtain ⟨t, h1, h2⟩ := seg_later S N (f := f1 + 1) hbb (by omega) (m + 1 - (f1 + 1)) s (by omega) hs
            have e : m + 1 - f' = (f1 + 1 - f') + (m + 1 - (f1 + 1)) := by omega
            have j := segP_join (w := wantP g b') (f := f') (m + 1 - (f1 + 1)) (f1 + 1 - f') hs' (by rw [show f' + (f1 + 1 - f') = f1 + 1 by omega]; exact h1)
            rw [← e] at j
            obtain ⟨d, t', h3, h4, h5⟩ := ih f' (by omega) b' _ (by omega) (by omega) j
            have := hl b
            exact ⟨d, t', h3, h4, by omega⟩
          · by_cases hfb : b ≤ f'
            · obtain ⟨t, h1, h2⟩ := seg_later S N (b := b') (c := b) (f := f') (by omega) hfb (f1 + 1 - f') s' (by omega) hs'
              have e : m + 1 - f' = (f1 + 1 - f') + (m + 1 - (f1 + 1)) := by omega
              have j := segP_join (w := wantP g b) (f := f') (m + 1 - (f1 + 1)) (f1 + 1 - f') h1 (by rw [show f' + (f1 + 1 - f') = f1 + 1 by omega]; exact hs)
              rw [← e] at j
              obtain ⟨d, t', h3, h4, h5⟩ := ih f' (by omega) b _ (by omega) (by omega) j
              have := hl b'
              exact ⟨d, t', h3, h4, by omega⟩
            · -- the days from b on are baked on b
              have e1 : f1 + 1 - f' = (b - f') + (f1 + 1 - b) := by omega
              rw [e1] at hs'
              obtain ⟨x, y, h1, h2, h3⟩ := segP_split _ _ hs'
              rw [show f' + (b - f') = b by omega] at h2
              have hrb : row b ≤ row f' + lights b' + x := by
                have := h.least (b - 1) (by omega) (row f' + lights b' + x) (.inl ⟨b', f', x, by omega, by omega, by rw [show b - 1 + 1 - f' = b - f' by omega]; exact h1, rfl⟩)
                rw [show b - 1 + 1 = b by omega] at this
                exact this
              obtain ⟨t, h4, h5⟩ := seg_later S N (b := b') (c := b) (f := b) (by omega) (Nat.le_refl b) (f1 + 1 - b) y (by omega) h2
              have e : m + 1 - b = (f1 + 1 - b) + (m + 1 - (f1 + 1)) := by omega
              have j := segP_join (w := wantP g b) (f := b) (m + 1 - (f1 + 1)) (f1 + 1 - b) h4 (by rw [show b + (f1 + 1 - b) = f1 + 1 by omega]; exact hs)
              rw [← e] at j
              exact ⟨b, _, hb, j, by omega⟩
        · have hw0 : wantN g f1 = 0 := (wantN_at hd).trans hw
          have j := segP_join (w := wantP g b) (f := f1) (m + 1 - (f1 + 1)) 1 (x := 0) (by
            have := segP_add (segP_zero (wantP g b) f1) (show wantP g b (f1 + 0) = some 0 from wantP_unw (by omega) hw0)
            exact this) hs
          rw [show 1 + (m + 1 - (f1 + 1)) = m + 1 - f1 by omega] at j
          obtain ⟨d, t', h3, h4, h5⟩ := ih f1 (by omega) b _ (by omega) (by omega) j
          exact ⟨d, t', h3, h4, by omega⟩
/-! ### the last lit day -/
/-- a cheapest plan for the first j days bakes all from d on, something, on d -/
def EndsAt (g : Good) (lights row : Nat → Int) (j d : Nat) : Prop := d < j ∧ 0 < sumN (fun i => wantN g (d + i)) (j - d) ∧ ∃ s, segP (wantP g d) d (j - d) = some s ∧ row d + lights d + s = row j
def IsLast (g : Good) (lights row : Nat → Int) (j : Nat) : Option Nat → Prop
  | none => ∀ d, ¬ EndsAt g lights row j d
  | some d => EndsAt g lights row j d ∧ ∀ e, d < e → ¬ EndsAt g lights row j e
theorem IsLast.uniq {g : Good} {lights row : Nat → Int} {j : Nat} {o o' : Option Nat} (h : IsLast g lights row j o) (h' : IsLast g lights row j o') : o = o' := by
  cases o with
  | none =>
    cases o' with
    | none => rfl
    | some d => exact absurd h'.1 (h d)
  | some d =>
    cases o' with
    | none => exact absurd h.1 (h' d)
    | some e =>
      congr 1
      by_cases h1 : d < e
      · exact absurd h'.1 (h.2 e h1)
      · by_cases h2 : e < d
        · exact absurd h.1 (h'.2 d h2)
        · omega
theorem wsum_zero {g : Good} {d : Nat} (N : NonNegW g.days) : ∀ m, sumN (fun i => wantN g (d + i)) m = 0 → ∀ i, i < m → wantN g (d + i) = 0
  | 0, _, i, hi => by omega
  | m + 1, h, i, hi => by
    have h : sumN (fun i => wantN g (d + i)) m + wantN g (d + m) = 0 := h
    have a := sumN_nonneg (f := fun i => wantN g (d + i)) m fun k _ => wantN_nonneg N _
    have b := wantN_nonneg N (d + m)
    by_cases e : i = m
    · subst e
      omega
    · exact wsum_zero N m (by omega) i (by omega)
theorem wsum_pos {g : Good} {d m i : Nat} (N : NonNegW g.days) (hi : i < m) (h : 0 < wantN g (d + i)) : 0 < sumN (fun i => wantN g (d + i)) m := by
  have a := sumN_nonneg (f := fun i => wantN g (d + i)) m fun k _ => wantN_nonneg N _
  by_cases e : sumN (fun i => wantN g (d + i)) m = 0
  · have := wsum_zero N m e i hi
    omega
  · omega
section
variable {g : Good} {lights row : Nat → Int} {n : Nat}
/-- of a day without a want nothing changes -/
theorem last_unw (h : IsRow g lights row n) (hn : n ≤ g.days.length) (hl : ∀ b, 0 ≤ lights b) (N : NonNegW g.days) (S : Steady g) {m : Nat} (hm : m < n) (hw : wantN g m = 0) (d : Nat) : EndsAt g lights row (m + 1) d ↔ EndsAt g lights row m d := by
  have er : row (m + 1) = row m := by
    have a := row_up h hl N S.nofine hm
    have b := row_flat h (f := m) (m + 1) (by omega) (by omega) fun k h1 h2 => by
      rw [show k = m by omega]
      exact wantN_zero (by omega) hw
    omega
  constructor
  · rintro ⟨h1, h2, s, h3, h4⟩
    have hdm : d < m := by
      by_cases e : d = m
      · subst e
        rw [show d + 1 - d = 1 by omega] at h2
        have h2 : 0 < 0 + wantN g (d + 0) := h2
        rw [Nat.add_zero, hw] at h2
        omega
      · omega
    rw [show m + 1 - d = (m - d) + 1 by omega] at h2 h3
    obtain ⟨x, y, a1, a2, a3⟩ := segP_succ h3
    rw [show d + (m - d) = m by omega, wantP_unw (by omega) hw] at a2
    have a2 := Option.some.inj a2
    have h2 : 0 < sumN (fun i => wantN g (d + i)) (m - d) + wantN g (d + (m - d)) := h2
    rw [show d + (m - d) = m by omega, hw] at h2
    exact ⟨hdm, by omega, x, a1, by omega⟩
  · rintro ⟨h1, h2, s, h3, h4⟩
    refine ⟨by omega, ?_, s, ?_, by omega⟩
    · rw [show m + 1 - d = (m - d) + 1 by omega]
      show 0 < sumN (fun i => wantN g (d + i)) (m - d) + wantN g (d + (m - d))
      rw [show d + (m - d) = m by omega, hw]
      omega
    · rw [show m + 1 - d = (m - d) + 1 by omega]
      have := segP_add h3 (show wantP g d (d + (m - d)) = some 0 by rw [show d + (m - d) = m by omega]; exact wantP_unw (by omega) hw)
      rw [this, Int.add_zero]
theorem last_wanted (h : IsRow g lights row n) (hn : n ≤ g.days.length) (hl : ∀ b, 0 ≤ lights b) (N : NonNegW g.days) (S : Steady g) {m : Nat} (hm : m < n) (hw : wantN g m ≠ 0) : ∃ d, EndsAt g lights row (m + 1) d := by
  have hp : 0 < wantN g m := by have := wantN_nonneg N m; omega
  rcases h.some m hm with ⟨b, f, s, hb, hf, hs, hv⟩ | ⟨⟨d, hd, hw'⟩, _⟩
  · obtain ⟨d, t, h1, h2, h3⟩ := diag h hn hl N S hm f b s hb hf hs
    have h4 := h.least m hm _ (.inl ⟨d, d, t, h1, h1, h2, rfl⟩)
    refine ⟨d, by omega, wsum_pos N (i := m - d) (by omega) (by rw [show d + (m - d) = m by omega]; exact hp), t, h2, by omega⟩
  · exact absurd ((wantN_at hd).trans hw') hw
/-- it never goes back -/
theorem last_up (h : IsRow g lights row n) (hn : n ≤ g.days.length) (hl : ∀ b, 0 ≤ lights b) (N : NonNegW g.days) (S : Steady g) {m d e : Nat} (hm : m < n) (hw : wantN g m ≠ 0) (hd : EndsAt g lights row m d) (he : IsLast g lights row (m + 1) (some e)) : d ≤ e := by
  by_cases hlt : e < d
  · exfalso
    obtain ⟨d1, d2, s, d3, d4⟩ := hd
    obtain ⟨⟨e1, e2, t, e3, e4⟩, e5⟩ := he
    rw [show m + 1 - e = (m - e) + 1 by omega] at e3
    obtain ⟨x, y, a1, a2, a3⟩ := segP_succ e3
    rw [show e + (m - e) = m by omega] at a2
    obtain ⟨y', b1, b2⟩ := want_later S N (show m < g.days.length by omega) (show e ≤ d by omega) (by omega) a2
    have le : row m ≤ row e + lights e + x := by
      have := h.least (m - 1) (by omega) (row e + lights e + x) (.inl ⟨e, e, x, by omega, by omega, by rw [show m - 1 + 1 - e = m - e by omega]; exact a1, rfl⟩)
      rw [show m - 1 + 1 = m by omega] at this
      exact this
    have sg : segP (wantP g d) d (m + 1 - d) = some (s + y') := by
      rw [show m + 1 - d = (m - d) + 1 by omega]
      exact segP_add d3 (by rw [show d + (m - d) = m by omega]; exact b1)
    have ge := h.least m hm _ (.inl ⟨d, d, _, by omega, by omega, sg, rfl⟩)
    have hp : 0 < wantN g m := by have := wantN_nonneg N m; omega
    exact e5 d hlt ⟨by omega, wsum_pos N (i := m - d) (by omega) (by rw [show d + (m - d) = m by omega]; exact hp), _, sg, by omega⟩
  · omega
end
end Bk

namespace Bk
open PySem PySem.Spec PyProof.Rows L2
def natO (o : Option Nat) : Option Int := o.map fun d => (d : Int)
def natV (o : Option Nat) : V := optV (natO o)
/-- the last lit days of a bakery's first days -/
structure Lasts (g : Good) (ls : List Int) (os : List (Option Nat)) : Prop where
  len : os.length = ls.length + 1
  row : ∃ row, IsRow g (rowF ls) row ls.length ∧ ∀ j o, os[j]? = some o → IsLast g (rowF ls) row j o
theorem EndsAt.congr {g : Good} {lights lights' row row' : Nat → Int} {j d : Nat} (e : ∀ k, k ≤ j → row k = row' k) (el : ∀ k, k < j → lights k = lights' k) (h : EndsAt g lights row j d) : EndsAt g lights' row' j d := by
  obtain ⟨h1, h2, s, h3, h4⟩ := h
  exact ⟨h1, h2, s, h3, by rw [← e d (by omega), ← e j (Nat.le_refl j), ← el d h1]; exact h4⟩
theorem IsLast.of_iff {g g' : Good} {lights lights' row row' : Nat → Int} {j j' : Nat} {o : Option Nat} (e : ∀ d, EndsAt g lights row j d ↔ EndsAt g' lights' row' j' d) (h : IsLast g lights row j o) : IsLast g' lights' row' j' o := by
  cases o with
  | none => exact fun d z => h d ((e d).mpr z)
  | some d => exact ⟨(e d).mp h.1, fun x hx z => h.2 x hx ((e x).mpr z)⟩
theorem Lasts.at_ {g : Good} {ls : List Int} {os : List (Option Nat)} (h : Lasts g ls os) {row : Nat → Int} (hR : IsRow g (rowF ls) row ls.length) {j : Nat} {o : Option Nat} (ho : os[j]? = some o) : IsLast g (rowF ls) row j o := by
  obtain ⟨row', h1, h2⟩ := h.row
  have hj : j < os.length := (List.getElem?_eq_some_iff.mp ho).1
  have hl := h.len
  have e := h1.ext hR
  exact (h2 j o ho).of_iff fun d => ⟨fun z => z.congr (fun k hk => e k (by omega)) fun _ _ => rfl, fun z => z.congr (fun k hk => (e k (by omega)).symm) fun _ _ => rfl⟩
theorem Lasts.uniq {g : Good} {ls : List Int} {os os' : List (Option Nat)} (h : Lasts g ls os) (h' : Lasts g ls os') : os = os' := by
  obtain ⟨row, h1, h2⟩ := h.row
  apply List.ext_getElem?
  intro j
  by_cases hj : j < ls.length + 1
  · have e := List.getElem?_eq_getElem (show j < os.length by rw [h.len]; exact hj)
    have e' := List.getElem?_eq_getElem (show j < os'.length by rw [h'.len]; exact hj)
    rw [e, e', (h2 j _ e).uniq (h'.at_ h1 e')]
  · rw [List.getElem?_eq_none (by rw [h.len]; omega), List.getElem?_eq_none (by rw [h'.len]; omega)]
theorem wantN_take {g : Good} {m k : Nat} (hk : k < m) : wantN ⟨g.days.take m, g.life⟩ k = wantN g k := by
  unfold wantN
  dsimp only
  rw [List.getElem?_take_of_lt hk]
theorem ends_take {g : Good} {lights lights' row : Nat → Int} {m j d : Nat} (hj : j ≤ m) (el : ∀ k, k < m → lights' k = lights k) : EndsAt g lights row j d ↔ EndsAt ⟨g.days.take m, g.life⟩ lights' row j d := by
  have key : d < j → sumN (fun i => wantN ⟨g.days.take m, g.life⟩ (d + i)) (j - d) = sumN (fun i => wantN g (d + i)) (j - d) := fun hd => sumN_congr _ fun i hi => wantN_take (by omega)
  constructor
  · rintro ⟨h1, h2, s, h3, h4⟩
    exact ⟨h1, by rw [key h1]; exact h2, s, by rw [segP_take (by omega) (by omega)]; exact h3, by rw [el d (by omega)]; exact h4⟩
  · rintro ⟨h1, h2, s, h3, h4⟩
    exact ⟨h1, by rw [← key h1]; exact h2, s, by rw [← segP_take (j := m) (by omega) (by omega)]; exact h3, by rw [← el d (by omega)]; exact h4⟩
theorem Lasts.take {g : Good} {ls : List Int} {os : List (Option Nat)} (h : Lasts g ls os) {m : Nat} (hm : m ≤ ls.length) : Lasts ⟨g.days.take m, g.life⟩ (ls.take m) (os.take (m + 1)) := by
  obtain ⟨row, h1, h2⟩ := h.row
  have el : (ls.take m).length = m := by rw [List.length_take]; omega
  refine ⟨by rw [List.length_take, h.len, el]; omega, row, ?_, fun j o ho => ?_⟩
  · rw [el]
    exact row_lights (fun b hb => (rowF_take hb).symm) (h1.take hm)
  · have hj : j < m + 1 := by
      have := (List.getElem?_eq_some_iff.mp ho).1
      rw [List.length_take] at this
      omega
    rw [List.getElem?_take_of_lt hj] at ho
    exact (h2 j o ho).of_iff fun d => ends_take (by omega) fun k hk => rowF_take hk
theorem Steady.take {g : Good} (h : Steady g) (m : Nat) : Steady ⟨g.days.take m, g.life⟩ := by
  refine ⟨fun d hd => h.nofine d (List.mem_of_mem_take hd), fun k d e hd he => ?_⟩
  have hk : k + 1 < m := by
    have := (List.getElem?_eq_some_iff.mp he).1
    rw [List.length_take] at this
    omega
  have hd : (g.days.take m)[k]? = some d := hd
  have he : (g.days.take m)[k + 1]? = some e := he
  rw [List.getElem?_take_of_lt (by omega)] at hd
  rw [List.getElem?_take_of_lt hk] at he
  exact h.never k d e hd he
/-! ### lists of days or None, compared -/
theorem dp_opts {K : PySem.W.Frag} {H : Hp} : ∀ l : List (Option Int), DpAll K H (l.map optV) (l.map optD)
  | [] => .nil
  | none :: r => .cons .non (dp_opts r)
  | some i :: r => .cons (.int i) (dp_opts r)
theorem lay_opts : ∀ l : List (Option Int), PyData.canLayAll0 (l.map optD) = true
  | [] => by simp only [List.map, PyData.canLayAll0]
  | none :: r => by simp only [List.map, PyData.canLayAll0, optD, PyData.canLay0, lay_opts r, Bool.and_self]
  | some i :: r => by simp only [List.map, PyData.canLayAll0, optD, PyData.canLay0, lay_opts r, Bool.and_self]
theorem depth_opts : ∀ l : List (Option Int), PyData.depthAll (l.map optD) = 0
  | [] => by simp only [List.map, PyData.depthAll]
  | none :: r => by simp only [List.map, PyData.depthAll, optD, PyData.depth, depth_opts r]; decide
  | some i :: r => by simp only [List.map, PyData.depthAll, optD, PyData.depth, depth_opts r]; decide
theorem shaped_opts (l : List (Option Int)) : SeqAt.shaped (.list (l.map optD)) = true := by
  simp only [SeqAt.shaped, PyData.canLay0, lay_opts, PyData.depth, depth_opts, Bool.true_and]
  decide
theorem natV_map (os : List (Option Nat)) : (os.map natV) = (os.map natO).map optV := by rw [List.map_map]; rfl
theorem ne_nats {K : PySem.W.Frag} {H : Hp} {a b : Addr} {os : List (Option Nat)} {Q : VK} (h1 : SqL K H a (os.map natV)) (h2 : SqL K H b (os.map natV)) (q : Q (.bl false) H) : rNeD K (.ref a) (.ref b) H Q := by
  rw [natV_map] at h1 h2
  refine ⟨_, _, .lst h1 (dp_opts _), .lst h2 (dp_opts _), shaped_opts _, shaped_opts _, ?_⟩
  rw [SeqAt.eqv_refl _ (by simp only [PyData.canLay0, lay_opts])]
  exact q
theorem ne_nilnil {K : PySem.W.Frag} {H : Hp} {a b : Addr} {Q : VK} (h1 : SqL K H a []) (h2 : SqL K H b []) (q : Q (.bl false) H) : rNeD K (.ref a) (.ref b) H Q := by
  refine ⟨.list [], .list [], .lst h1 .nil, .lst h2 .nil, shaped_opts [], shaped_opts [], ?_⟩
  rw [SeqAt.eqv_refl _ (by simp only [PyData.canLay0, PyData.canLayAll0])]
  exact q
theorem atI_last {α : Type} {xs : List α} {m : Nat} {v : α} (h : xs.length = m + 1) (e : xs[m]? = some v) : atI xs (-1) = some v := by
  have k : ixN xs.length (-1) = some m := by
    rw [h]
    unfold ixN
    rw [if_neg (by decide), if_pos (by omega)]
    congr 1
    omega
  unfold atI
  rw [k]
  exact e
end Bk

/-! an own error class over ValueError whose __init__ begins with super().__init__(..) -/
namespace Bk
open PySem PySem.Spec PyProof.Rows L2
/-- what the written part says, besides OexC, of such a class at C and of its __init__, with the cell cc and the code cda -/
structure SupC (P : Program) (K : PySem.W.Frag) (C cc cda : Addr) : Prop where
  code : ∃ ccl cdd vs ccs file tf, K.lookup cda = some ⟨ccl, cdd, .fields vs, ccs⟩ ∧ vs[2]? = some (.str file tf) ∧ ((P.main.file : Str) == file) = true
  cell : ∃ cl cld csl, K.lookup cc = some ⟨cl, cld, .cell (some (.ref C)), csl⟩
  sup : PySem.W.ks_superIn K C C "__init__" = some (some (.builtin "ValueError.__init__"))
  mro : PySem.W.mroIn K C (.ref C) = some true
  sub : PySem.W.subIn K (.ref C) (.type "ValueError") = some true
  super : PySem.W.nsIn K mainGlobals "super" = some none
  opq : PySem.W.nsIn K cStatics "thirdparty.any" = some none
  top : (P.main.scope.names.lookup ("super" : Str)).isSome = false
theorem boot_super : bootBuiltins "super" = some (.type "super") := by decide +kernel
theorem pinAdd {X : Cx} {pins : List (Addr × Obj)} {σ : L2.St} {H : Hp} {s : Shared} (I : Inv X pins σ H s) {u : Addr} {o : Obj} (h1 : s.heap.get? u = some o) (h2 : H u = none) (h3 : u ≠ X.env.locals) (h4 : u ∉ X.fs) (h5 : ∀ v, o.data ≠ .cell v) : Inv X ((u, o) :: pins) σ H s := by
  have hp : ∀ p ∈ X.pn ++ ((u, o) :: pins), s.heap.get? p.1 = some p.2 ∧ H p.1 = none ∧ p.1 ≠ X.env.locals ∧ p.1 ∉ X.fs ∧ ∀ v, p.2.data ≠ .cell v := by
    intro p hp
    rcases List.mem_append.mp hp with z | z
    · exact I.pin p (List.mem_append_left _ z)
    · rcases List.mem_cons.mp z with z | z
      · rw [z]
        exact ⟨h1, h2, h3, h4, h5⟩
      · exact I.pin p (List.mem_append_right _ z)
  exact ⟨I.ok, I.os, I.bare, I.base, I.loc, I.cell, I.free, I.freeC, hp, I.hok, I.len⟩
/-- the bound ValueError.__init__, called -/
theorem sup_call {X : Cx} {pins : List (Addr × Obj)} {σ : L2.St} {H : Hp} {s : Shared} {a C u : Addr} {us : List Value} {A : Around} {Q : Value → Shared → Prop} {E : Value → Shared → Prop} (T : OexC X.K C) (I : Inv X pins σ H s) (e : H a = some (exo a C none)) (hu : s.heap.get? u = some (PySem.W.kxs_mw "ValueError.__init__" a)) (hl : us.length ≤ sizeLine)
    (h : ∀ s', Inv X pins σ H s' → Q .none s') : wpAny (model X.prog X.w) A (call (.ref u) us) Q E s := by
  obtain ⟨nm, q, N, bs, bm, sn, sub, ab, col, dd, k0, k1, k2, k3, k5, hC, hbm⟩ := T.cls
  obtain ⟨t1, ho⟩ := exo_at I.hok e
  have hC := I.kIn _ _ hC
  obtain ⟨hp, g, d, t, os⟩ := s
  refine wpAny_call (codeAny_of_tree ?_)
  show wpAny _ A.in1 (callAny (.ref u) ⟨us, []⟩) _ _ _
  simp only [callAny]
  refine wpAny_bind (wpAny_load hu ?_)
  simp only [PySem.W.kxs_mw, show (Value.type "method-wrapper" == Value.type "method" || Value.type "method-wrapper" == Value.type "builtin_function_or_method" || Value.type "method-wrapper" == Value.type "method-wrapper") = true by decide, if_true]
  refine PySem.W.KFB.if_so (by decide) ?_
  refine wpAny_bind (PySem.W.check_bound_init F.excBase_ValueError.toExcCallFacts hC ho rfl ?_)
  refine wpAny_bind (wpAny_pure (wpAny_pure ?_))
  refine ⟨plainId_quiet F.excBase_ValueError.init.plain _, codeAny_builtin F.excBase_ValueError.initEntry ?_⟩
  rw [Around.under_plainId F.excBase_ValueError.init.plain _]
  refine PySem.W.exc_init_tree (cls := .ref C) (t0 := t1) (dv := none) (c2 := .none) (c3 := .none) (b4 := .bool false) ho hl fun h' k hx _ => ?_
  have J := I.write (t' := t) (x := a) (e := a) (o := exo a C none) (by rw [e]; exact True.intro) (.inl rfl) k ⟨_, hx⟩ (exo_ok hx)
  have eu : upd H a (exo a C none) = H := by
    funext b
    by_cases hb : b = a
    · rw [hb, upd_same, e]
    · rw [upd_ne hb]
  rw [eu] at J
  exact h _ J
section
open NdefX
variable {CX : CXT} {P : Program} {w : World} {K : PySem.W.Frag} {mg : Str → Option Value} {base : Heap} {N pr : List Str} {f C cc cda : Addr} {k : Nat} {sp : Sp}
  {qual : Str} {params : Arguments} {scope : Scope} {dV kV doc pm ct oc : Value} {an od : Option Addr} {osl : Array (Option Value)} {e : Expr} {es : List Expr} {rest : List Stmt} {p0 p1 p2 pos posE pa : Pos} {ann : Option Expr} {more : List Arg}
/-- __init__ of such a class, by what stands behind super().__init__(..) -/
theorem fn_sup (lk : K.lookup f = some ⟨oc, od, .func (PySem.W.ksFn "__init__" qual params (.Expr (.Call (.Attribute (.Call (.Name "super" p0) [] [] p1) "__init__" p2) (e :: es) [] pos) posE :: rest) scope dV kV doc pm an (.ref cda) ct cc), osl⟩)
    (hcd : PySem.W.codeIn K (.ref cda) qual = true) (T : OexC K C) (U : SupC P K C cc cda) (S : NScope N (("self" : Str) :: pr) ["__class__"] scope) (hsup : scope.names.lookup ("super" : Str) = some .globalImplicit)
    (hpar : (params.posonlyargs ++ params.args).head? = some ⟨"self", ann, pa⟩)
    (len : ∀ vs H Q E, sp vs H Q E → vs.length = (("self" : Str) :: pr).length)
    (hbody : ∀ (A : Around) (outer : List Env) (s : Shared) (H : Hp) (vs : List V) (Q : VK) (E : XK), sp vs H Q E →
      ∃ (a : Addr) (vr : List V) (ta : TA) (t : TS), vs = .ref a :: vr ∧ H a = some (exo a C none) ∧
        PA (ncx CX P w K mg base N ⟨"__init__", qual, params, (.Expr (.Call (.Attribute (.Call (.Name "super" p0) [] [] p1) "__init__" p2) (e :: es) [] pos) posE :: rest), scope, [("__class__", cc)], cda⟩ f A outer s H E) (e :: es) ta ∧
        PSs (ncx CX P w K mg base N ⟨"__init__", qual, params, (.Expr (.Call (.Attribute (.Call (.Name "super" p0) [] [] p1) "__init__" p2) (e :: es) [] pos) posE :: rest), scope, [("__class__", cc)], cda⟩ f A outer s H E) rest t ∧
        ta (startF N vs [none]) H fun ws H1 => ws.length ≤ 1000 ∧ H1 = H ∧ t { nx := fun _ H' => Q .non H', rt := Q } (startF N vs [none]) H)
    (he : ∀ env, starEach (e :: es) env = (false, eval e env) :: starEach es env := by intro _; rfl) (hpl : ∀ env, (backTo pos (starEach es env)).any (·.1) = false := by intro _; rfl)
    (hev : ∀ env, ∃ pl, eval (.Call (.Attribute (.Call (.Name "super" p0) [] [] p1) "__init__" p2) (e :: es) [] pos) env = (do
      let ov ← attributeBase (.Call (.Name "super" p0) [] [] p1) "__init__" env (eval (.Call (.Name "super" p0) [] [] p1) env)
      standAt p2.atName
      let (f, first) ← holding [ov] (getMethod ov "__init__" pl)
      callWith pos f first (backTo pos (starEach (e :: es) env)) []) := by intro _; exact ⟨_, rfl⟩)
    (hsw : ∀ env, swapsWith (.Call (.Attribute (.Call (.Name "super" p0) [] [] p1) "__init__" p2) (e :: es) [] pos) none posE.line env = pure false := by intro _; rfl) :
    FnOk P w K mg base CX (k + 1) f (PySem.W.ksFn "__init__" qual params (.Expr (.Call (.Attribute (.Call (.Name "super" p0) [] [] p1) "__init__" p2) (e :: es) [] pos) posE :: rest) scope dV kV doc pm an (.ref cda) ct cc) (("self" : Str) :: pr) sp := by
  refine ⟨len, fun A outer s H args us vs Q E hr e0 hb r hsp => ?_⟩
  have hl := len _ _ _ _ hsp
  have KX : K.In s.heap := e0.mod.kin.keeps fun b o e => (e0.bs b o e).1
  have lim : s.heap.NoLimit := e0.mod.nolimit.keeps fun b o e => (e0.bs b o e).1
  obtain ⟨ccl, cdd, vsC, ccs, file, tf, hcode, hvs, hfile⟩ := U.code
  obtain ⟨cl, cld, csl, hcell⟩ := U.cell
  obtain ⟨a, vr, ta, t, rfl, ha, hPA, hPS, hta⟩ := hbody A outer s H vs Q E hsp
  refine ks_codeAny_call_defAt (binds := (("self" : Str) :: pr).zip us) hr.depth (KX _ _ lk) rfl lim (PySem.W.codeRec_of KX hcd) rfl hb S.nocell (fun ⟨n, v⟩ hy => S.par n (List.of_mem_zip hy).1) (fun h₁ hns kp => ?_) S.co S.gen S.kind
  have look1 : ∀ {y : Str} {c : Addr}, List.lookup y [(("__class__" : Str), cc)] = some c → y = "__class__" ∧ c = cc := fun {y c} e => by
    by_cases h : y = "__class__"
    · subst h
      simp [List.lookup] at e
      exact ⟨rfl, e.symm⟩
    · have h : (y == ("__class__" : Str)) = false := by simpa using h
      simp [List.lookup, h] at e
  have CA : CellsAt [(("__class__" : Str), cc)] ["__class__"] [none] s.heap H := by
    refine ⟨rfl, fun y c e => ?_, fun x y c h1 h2 => ?_, fun i y hi => ?_⟩
    · obtain ⟨rfl, rfl⟩ := look1 e
      exact ⟨(e0.bs _ _ (e0.mod.kin _ _ hcell)).2, _, _, KX _ _ hcell, rfl⟩
    · rw [(look1 h1).1, (look1 h2).1]
    · cases i with
      | zero =>
        cases hi
        exact ⟨cc, by simp [List.lookup], fun v hv => by cases hv⟩
      | succ i => cases hi
  have I : Inv (ncx CX P w K mg base N ⟨"__init__", qual, params, (.Expr (.Call (.Attribute (.Call (.Name "super" p0) [] [] p1) "__init__" p2) (e :: es) [] pos) posE :: rest), scope, [("__class__", cc)], cda⟩ f A outer s H E) [] (startF N (.ref a :: vr) [none]) H { s with heap := h₁, toks := s.toks + ((("self" : Str) :: pr).zip us).length } := inv_startN S hr.hd e0 hl r CA hns kp
  have KX1 : K.In h₁ := KX.keeps kp
  obtain ⟨oC, hC1, hC2⟩ : ∃ oD cdD, h₁.get? C = some oD ∧ oD.data = .cls cdD := by
    obtain ⟨nm, q, N', bs, bm, sn, sub, ab, col, dd, k0, k1, k2, k3, k5, hC, hbm⟩ := T.cls
    exact ⟨_, _, KX1 _ _ hC, rfl⟩
  obtain ⟨t1, hx⟩ := exo_at I.hok ha
  obtain ⟨hC2, hC3⟩ := hC2
  cases r with
  | cons ra rr =>
  rename_i u0 ur
  obtain rfl : u0 = Value.ref a := ra
  have hint : interactive (callEnv (PySem.W.ksFn "__init__" qual params (.Expr (.Call (.Attribute (.Call (.Name "super" p0) [] [] p1) "__init__" p2) (e :: es) [] pos) posE :: rest) scope dV kV doc pm an (.ref cda) ct cc) s.heap.objs.size f) = false := by
    show (scope.kind == .module && _) = false
    rw [S.kind]
    rfl
  obtain ⟨pl, hpl'⟩ := hev (callEnv (PySem.W.ksFn "__init__" qual params (.Expr (.Call (.Attribute (.Call (.Name "super" p0) [] [] p1) "__init__" p2) (e :: es) [] pos) posE :: rest) scope dV kV doc pm an (.ref cda) ct cc) s.heap.objs.size f)
  refine ks_wpAt_execs_cons (ks_wpAt_Expr_any (ks_wpAt_MethodCall (pl := pl) (ks_wpAt_super_base (ar := ⟨"self", ann, pa⟩) hsup (S.frk _ (by simp)) (by decide) rfl (KX1 _ _ lk) rfl hpar rfl (KX1 _ _ hcode) rfl hvs hfile U.top ?_) hpl') hint (hsw _))
  have hnd : ((("self" : Str)) :: pr).Nodup := by
    have q := S.nd.sublist (List.take_sublist (((("self" : Str)) :: pr).length + ([("__class__" : Str)]).length) N)
    rw [S.pre] at q
    exact (List.nodup_append.mp q).1
  obtain ⟨mb, hb1, hb2⟩ := e0.mod.blt
  have up1 : ∀ b o, base.get? b = some o → h₁.get? b = some o := fun b o z => kp b o (e0.bs b o z).1
  refine PySem.W.ks_loadName_global S.kind hsup (Calls.loadGlobal_builtin (e0.mod.glob.keeps up1) (PySem.W.mg_none_of e0.mod.kin e0.mod.glob U.super) (hb1.keeps up1) ((hb2 _ (by decide +kernel)).trans boot_super) ⟨rfl, ?_⟩)
  refine wpAny_loadName_free S.kind (S.frk _ (by simp)) (show List.lookup _ [(("__class__" : Str), cc)] = some cc by simp [List.lookup]) ⟨_, KX1 _ _ hcell, rfl⟩ ?_
  refine wpAny_loadName_local S.kind (S.par _ (by simp)) hns (v := .ref a) (zip_look (i := 0) hnd rfl rfl) ?_
  refine ks_wpAny_isType_cls hC2 hC3 ⟨rfl, ?_⟩
  refine ks_wpAny_call_super hC2 hC3 hx rfl (fun c z => by cases z) (PySem.W.looks_mroIn KX1 U.mro) (fun h' eso k' => ?_)
  have KX2 : K.In h' := KX1.keeps k'
  have hx2 := k' _ _ hx
  obtain ⟨cd, hcl⟩ : ∃ cd, PySem.W.clsIn K C = some cd := by
    obtain ⟨nm, q, N', bs, bm, sn, sub, ab, col, dd, k0, k1, k2, k3, k5, hC, hbm⟩ := T.cls
    exact ⟨_, by unfold PySem.W.clsIn; rw [hC] <;> rfl⟩
  have hsp := U.sup
  unfold PySem.W.ks_superIn at hsp
  rw [hcl] at hsp
  have IA : PySem.W.InstAt h' a _ C none := ⟨hx2, rfl, rfl, trivial⟩
  refine PySem.W.kxs_getMethod PySem.W.kxs_ValueError eso (PySem.W.looks_opaque KX2 U.opq) (l₀ := cd.mro) (fun A Q E s k q => wpAny_bind ((PySem.W.looks_clsIn KX2 hcl) A _ E s k (wpAny_pure q))) rfl KX2 hsp (IA.type.andThen (PySem.W.looks_subIn KX2 U.sub)) (PySem.W.ks_ne KX2 IA hcl) (by decide) ?_
  have k2 : ∀ b o, h₁.get? b = some o → (h'.push (PySem.W.kxs_mw "ValueError.__init__" a)).get? b = some o := fun b o z => Heap.get?_push_of_some _ (k' b o z)
  have hu : (h'.push (PySem.W.kxs_mw "ValueError.__init__" a)).get? h'.objs.size = some (PySem.W.kxs_mw "ValueError.__init__" a) := Heap.get?_push_at rfl rfl
  have I2 := I.kept (t' := s.toks + ((("self" : Str) :: pr).zip (Value.ref a :: ur)).length + 1) k2
  have hnu : ∀ {b : Addr} {o : Obj}, h₁.get? b = some o → b ≠ h'.objs.size := fun {b o} z => Nat.ne_of_lt (Heap.lt_size (k' b o z))
  have hsz : h₁.objs.size ≤ h'.objs.size := Nat.le_of_lt (Heap.lt_size eso)
  have I3 := pinAdd I2 (u := h'.objs.size) (o := PySem.W.kxs_mw "ValueError.__init__" a) hu (I.hok.fresh hsz) (fun z => by have q := I.lt; have z : h'.objs.size = s.heap.objs.size := z; have q : s.heap.objs.size < h₁.objs.size := q; omega) (I.nofs hsz) (fun v z => by cases z)
  rw [he]
  refine PySem.W.kxs_callWith (i := "ValueError.__init__") (x := a) (by show (false || (backTo pos (starEach es _)).any (·.1)) = false; rw [hpl]; rfl) (Calls.evalArgs_plain ?_)
  have hrun := hPA.run pos _ _ _ _ _ I3 hta
  rw [he] at hrun
  refine wpAny_mono hrun (fun us' s1 hq => ?_) fun _ _ z => z
  obtain ⟨vs', H1, I4, r4, hl4, rfl, ht⟩ := hq
  obtain ⟨hu4, _⟩ := I4.pin (h'.objs.size, PySem.W.kxs_mw "ValueError.__init__" a) (List.mem_append_right _ List.mem_cons_self)
  refine ⟨hu4, sup_call T I4 ha hu4 (by show us'.length ≤ _; rw [← Paired.length r4, sizeLine_eq]; omega) fun s5 I5 => ?_⟩
  refine wpAt_of_wpAny ?_
  refine wpAny_mono (hPS.run _ s5 _ H1 _ I5 ht) (fun fl s' hs => ?_) fun _ _ z => z
  have fin : ∀ {pins : List (Addr × Obj)} {σ' : L2.St} {H' : Hp} {v : V} {u : Value}, Inv (ncx CX P w K mg base N ⟨"__init__", qual, params, (.Expr (.Call (.Attribute (.Call (.Name "super" p0) [] [] p1) "__init__" p2) (e :: es) [] pos) posE :: rest), scope, [("__class__", cc)], cda⟩ f A outer s H1 E) pins σ' H' s' → L2.RelV v u → Q v H' → CE outer P w H1 s Q u s' :=
    fun {pins σ' H' v u} J rv q => ⟨v, H', J.os, J.bare, J.base, J.hok, rv, q⟩
  cases fl with
  | ret u =>
    obtain ⟨v, σ', H', J, rv, q⟩ := hs
    exact fin J rv q
  | next =>
    obtain ⟨σ', H', J, q⟩ := hs
    exact fin (v := V.non) (u := Value.none) J rfl q
  | brk =>
    obtain ⟨_, _, _, q⟩ := hs
    exact False.elim q
  | cont =>
    obtain ⟨_, _, _, q⟩ := hs
    exact False.elim q
end
end Bk

namespace Bk
open PySem PySem.Spec PyProof.Rows L2
/-! ### a def of the text that may let an exception out -/
structure DefX (P : Program) (w : World) (K : PySem.W.Frag) (mg : Str → Option Value) (base : Heap) (x : Str) (k : Nat) (ps : List Str) (sp : Sp) : Prop where
  ex : ∃ (f : Addr) (fd : FuncData), mg x = some (.ref f) ∧ PySem.W.keepIn K (.ref f) = true ∧ Binds K fd ps [] ∧ FnOk P w K mg base (L2.CX P w) k f fd ps sp
theorem pe_callDX {X : Cx} {x : Str} {k j : Nat} {ps : List Str} {sp : Sp} {W : WX} {e : Expr} {es : List Expr} {t : TA} {p pos : Pos} (D : DefX X.prog X.w X.K X.mg X.base x k ps sp) (tk : Takes X W) (hr : Room j X.A) (hg : Gl X x) (ha : PA X (e :: es) t)
    (hkj : k ≤ j := by omega) (hdb : (x == ("__debug__" : Str)) = false := by decide) (he : starEach (e :: es) X.env = (false, eval e X.env) :: starEach es X.env := by rfl) (hpl : (backTo pos (starEach es X.env)).any (·.1) = false := by rfl) :
    PE X (.Call (.Name x p) (e :: es) [] pos) (tCallS sp (WE W) t) := by
  obtain ⟨f, fd, hm, hk, hb, F⟩ := D.ex
  exact pe_callS F (hr.mono hkj) hg hm hk hb (passAt tk) ha hdb he hpl
/-! ### {x} of a number or None -/
def smV : V → Prop
  | .non => True
  | .int i => i.natAbs < 10 ^ 60
  | _ => False
def tFmtO (te : TE) : TE := fun σ H Q => te σ H fun x H1 => smV x ∧ ∀ y : Str, y.length ≤ 70 → Q (.str y) H1
theorem log60 {n : Nat} (h : n < 10 ^ 60) : n.log2 < 1920 := by
  by_cases h0 : n = 0
  · subst h0
    decide
  · have : n.log2 < 200 := (Nat.log2_lt h0).mpr (Nat.lt_of_lt_of_le h (by decide))
    omega
theorem pe_fmtO {X : Cx} {e : Expr} {te : TE} {pos : Pos} (he : PE X e te) : PE X (.FormattedValue e (-1) none pos) (tFmtO te) := by
  refine ⟨fun pins s σ H Q I h => wpAny_FormattedValue_plain (thn (he.run pins s σ H _ I h) fun v s1 hv => ?_)⟩
  obtain ⟨x, H1, I1, r1, hs, q⟩ := hv
  cases x with
  | non =>
    obtain rfl : v = Value.none := r1
    exact wpAny_formatField_none ⟨.str "None", H1, I1.tok _, ⟨_, rfl⟩, q _ (by decide)⟩
  | int i =>
    have hs : i.natAbs < 10 ^ 60 := hs
    obtain ⟨t, rfl⟩ := (show ∃ t, v = Value.int i t from r1)
    refine wpAny_formatField_int (log60 hs) ⟨.str (toString i), H1, I1.tok _, ⟨_, rfl⟩, q _ ?_⟩
    have z := int_text_length_le10 (k := 60) (by decide) hs
    rw [PySem.ofString_length]
    omega
  | _ => exact hs.elim
/-! ### the __init__ of an error with two fields -/
def spInit2 (K : PySem.W.Frag) (C : Addr) (f1 f2 : Str) : Sp := fun vs H Q _ => ∃ (a : Addr) (u v : V), vs = [.ref a, u, v] ∧ smV u ∧ smV v ∧ H a = some (exo a C none) ∧ ∀ dx, H dx = none → dx ≠ a → Q .non (upd (upd (upd H dx (exd dx [(f1, u)])) a (exo a C (some dx))) dx (exd dx [(f2, v), (f1, u)]))
theorem mk_init2 {K : PySem.W.Frag} {C a : Addr} {f1 f2 : Str} {H1 : Hp} {u v : V} {Q : XK} (hu : smV u) (hv : smV v) (ha : H1 a = none) (q : ∀ d, H1 d = none → Q (.ref C) (some d) (upd H1 d (.xd [(f2, v), (f1, u)]))) :
    spInit2 K C f1 f2 (.ref a :: ([u, v] ++ [])) (upd H1 a (exo a C none)) (fun x H2 => x = .non ∧ ∃ (d : Addr) (fs : List (Str × V)), H2 a = some (exo a C (some d)) ∧ H2 d = some (exd d fs) ∧ H1 d = none ∧ Q (.ref C) (some d) (upd (del H2 a) d (.xd fs))) (fun _ _ _ => False) := by
  refine ⟨a, u, v, rfl, hu, hv, upd_same, fun dx hdx hne => ⟨rfl, dx, _, ?_, upd_same, ?_, ?_⟩⟩
  · rw [upd_ne (Ne.symm hne), upd_same]
  · rw [upd_ne hne] at hdx
    exact hdx
  · have hd : H1 dx = none := by rw [upd_ne hne] at hdx; exact hdx
    have e : upd (del (upd (upd (upd (upd H1 a (exo a C none)) dx (exd dx [(f1, u)])) a (exo a C (some dx))) dx (exd dx [(f2, v), (f1, u)])) a) dx (.xd [(f2, v), (f1, u)]) = upd H1 dx (.xd [(f2, v), (f1, u)]) := by
      funext b
      by_cases hb : b = dx
      · rw [hb, upd_same, upd_same]
      · rw [upd_ne hb, upd_ne hb]
        by_cases hba : b = a
        · rw [hba, del_same, ha]
        · rw [del_ne hba, upd_ne hb, upd_ne hba, upd_ne hb, upd_ne hba]
    rw [e]
    exact q dx hd
end Bk

namespace Bk
open PySem PySem.Spec PyProof.Rows L2
/-! ### what is wrong with what is no bakery: the first thing -/
def fbD : Nat → List PyData → Option Nat
  | _, [] => none
  | i, d :: r => if dayB d = true then fbD (i + 1) r else some i
def badG (n : Nat) (d : PyData) : Option (Option Nat) := if goodFormB n d = true then (match d with
    | .tuple [.list ds, _] => (fbD 0 ds).map some
    | _ => some none) else some none
def wgD (n : Nat) : Nat → List PyData → Option (Nat × Option Nat)
  | _, [] => none
  | i, g :: r => match badG n g with
    | none => wgD n (i + 1) r
    | some o => some (i, o)
def wrongD (d : PyData) : Option (Option Nat × Option Nat) := if bakFormB d = true then (match d with
    | .tuple [.list ls, _, .list gs] => (wgD ls.length 0 gs).map fun p => (some p.1, p.2)
    | _ => some (none, none)) else some (none, none)
theorem fbD_none : ∀ {ds : List PyData} {i : Nat}, fbD i ds = none ↔ ds.all dayB = true
  | [], i => by simp [fbD]
  | d :: r, i => by
    rw [List.all_cons, Bool.and_eq_true]
    unfold fbD
    by_cases h : dayB d = true
    · rw [if_pos h, fbD_none (ds := r) (i := i + 1)]
      exact ⟨fun z => ⟨h, z⟩, fun z => z.2⟩
    · rw [if_neg h]
      exact ⟨fun z => (by cases z), fun z => absurd z.1 h⟩
theorem goodForm_inv {n : Nat} {d : PyData} (h : goodFormB n d = true) : ∃ ds l, d = .tuple [.list ds, l] ∧ ds.length = n ∧ lifeB l = true := by
  unfold goodFormB at h
  split at h
  · rename_i ds l
    rw [Bool.and_eq_true] at h
    cases ds with
    | list ds =>
      have h1 := Bool.and_eq_true_iff.mp h.1
      have a := of_decide_eq_true h1.1
      have b := of_decide_eq_true h1.2
      exact ⟨ds, l, rfl, by omega, h.2⟩
    | _ => cases h.1
  · cases h
theorem badG_none {n : Nat} {d : PyData} : badG n d = none ↔ goodB n d = true := by
  unfold badG
  by_cases h : goodFormB n d = true
  · rw [if_pos h]
    obtain ⟨ds, l, rfl, h1, h2⟩ := goodForm_inv h
    dsimp only
    rw [Option.map_eq_none_iff, fbD_none]
    simp only [goodB, h1, h2, decide_true, Bool.true_and, Bool.and_true]
  · rw [if_neg h]
    refine ⟨fun z => (by cases z), fun z => ?_⟩
    obtain ⟨ds, l, rfl, h1, h2, _⟩ := goodB_inv z
    exact absurd (by simp only [goodFormB, listB, h1, h2, Nat.le_refl, decide_true, Bool.and_self]) h
theorem wgD_none {n : Nat} : ∀ {gs : List PyData} {i : Nat}, wgD n i gs = none ↔ gs.all (goodB n) = true
  | [], i => by simp [wgD]
  | g :: r, i => by
    rw [List.all_cons, Bool.and_eq_true, ← badG_none]
    unfold wgD
    cases h : badG n g with
    | none =>
      dsimp only
      rw [wgD_none (gs := r) (i := i + 1)]
      exact ⟨fun z => ⟨rfl, z⟩, fun z => z.2⟩
    | some o => exact ⟨fun z => (by cases z), fun z => (by cases z.1)⟩
theorem bakForm_inv {d : PyData} (h : bakFormB d = true) : ∃ ls b gs, d = .tuple [.list ls, b, .list gs] ∧ lightsB (.list ls) = true ∧ boundB b = true ∧ listB 1 2 (.list gs) = true := by
  unfold bakFormB at h
  split at h
  · rename_i l b g
    rw [Bool.and_eq_true, Bool.and_eq_true] at h
    cases l with
    | list ls =>
      cases g with
      | list gs => exact ⟨ls, b, gs, rfl, h.1, h.2.1, h.2.2⟩
      | _ => cases h.2.2
    | _ => cases h.1
  · cases h
theorem wrongD_none {d : PyData} : wrongD d = none ↔ bakB d = true := by
  unfold wrongD
  by_cases h : bakFormB d = true
  · rw [if_pos h]
    obtain ⟨ls, b, gs, rfl, h1, h2, h3⟩ := bakForm_inv h
    dsimp only
    rw [Option.map_eq_none_iff, wgD_none]
    simp only [bakB, h1, h2, h3, Bool.true_and]
  · rw [if_neg h]
    refine ⟨fun z => (by cases z), fun z => ?_⟩
    obtain ⟨ls, b, gs, rfl, h1, h2, h3, _⟩ := bakB_inv z
    exact absurd (by simp only [bakFormB, h1, h2, h3, Bool.and_self]) h
theorem wgD_lt {n : Nat} : ∀ {gs : List PyData} {i j : Nat} {o : Option Nat}, wgD n i gs = some (j, o) → j < i + gs.length
  | [], i, j, o, h => by cases h
  | g :: r, i, j, o, h => by
    unfold wgD at h
    cases e : badG n g with
    | none =>
      rw [e] at h
      have := wgD_lt (gs := r) (i := i + 1) h
      rw [List.length_cons]
      omega
    | some o' =>
      rw [e] at h
      cases h
      rw [List.length_cons]
      omega
/-! ### raising -/
def clsBody : Stmt → List Stmt
  | .ClassDef (body := b) .. => b
  | _ => []
def clsM (st : Stmt) (j : Nat) : Stmt := (clsBody st).getD j (.Pass ⟨0, 0, 0, 0⟩)
/-- an error class with two fields, as the top has written it -/
structure Err2 (P : Program) (w : World) (K : PySem.W.Frag) (mg : Str → Option Value) (base : Heap) (x : Str) (C : Addr) (f1 f2 : Str) : Prop where
  g : mg x = some (.ref C)
  T : OexC K C
  init : ∃ (fI : Addr) (fd : FuncData), PySem.W.findIn K (.ref C) "__init__" = some (some (.ref fI)) ∧ PySem.W.typeIn K (.ref fI) = some (.type "function") ∧ Binds K fd ["self", f1, f2] [] ∧ FnOk P w K mg base CX0 1 fI fd ["self", f1, f2] (spInit2 K C f1 f2)
def rRaise2 (K : PySem.W.Frag) (C : Addr) (f1 f2 : Str) (W : WX) (σ : L2.St) (vs : List V) (H1 : Hp) : Prop := vs.length ≤ 1000 ∧ ∀ a, H1 a = none → spInit2 K C f1 f2 (.ref a :: (vs ++ [])) (upd H1 a (exo a C none))
  (fun v H2 => v = .non ∧ ∃ (d : Addr) (fs : List (Str × V)), H2 a = some (exo a C (some d)) ∧ H2 d = some (exd d fs) ∧ H1 d = none ∧ W (.ref C) (some d) σ (upd (del H2 a) d (.xd fs))) (fun _ _ _ => False)
def tRaise2 (K : PySem.W.Frag) (C : Addr) (f1 f2 : Str) (W : WX) (ta : TA) : TS := fun _ σ H => ta σ H fun vs H1 => rRaise2 K C f1 f2 W σ vs H1
theorem raise2_of {K : PySem.W.Frag} {C : Addr} {f1 f2 : Str} {W : WX} {σ : L2.St} {u v : V} {H1 : Hp} (hu : smV u) (hv : smV v) (hd : ∀ d, H1 d = none → W (.ref C) (some d) σ (upd H1 d (.xd [(f2, v), (f1, u)]))) : rRaise2 K C f1 f2 W σ [u, v] H1 :=
  ⟨by show 2 ≤ 1000; decide, fun a hn => mk_init2 (Q := fun cls d H' => W cls d σ H') hu hv hn hd⟩
theorem ps_raise2 {X : Cx} {x : Str} {C : Addr} {f1 f2 : Str} {W : WX} {ta : TA} {e : Expr} {es : List Expr} {k : Nat} {p pos pos2 : Pos} (R : Err2 X.prog X.w X.K X.mg X.base x C f1 f2) (hc : X.calm = true) (tk : Takes X W) (hr : Room k X.A) (hg : Gl X x) (ha : PA X (e :: es) ta) (hk : 2 ≤ k := by omega)
    (hdb : (x == ("__debug__" : Str)) = false := by decide) (he : starEach (e :: es) X.env = (false, eval e X.env) :: starEach es X.env := by rfl) (hpl : (backTo pos (starEach es X.env)).any (·.1) = false := by rfl) :
    PS X (.Raise (some (.Call (.Name x p) (e :: es) [] pos)) none pos2) (tRaise2 X.K C f1 f2 W ta) := by
  obtain ⟨fI, fd, h1, h2, h3, h4⟩ := R.init
  have M := pmk_oex (pos := pos) (p := p) R.T h1 h2 h4 (hr.mono hk) h3 .nil pass0 hg R.g ha hdb he hpl
  exact ps_raise (pos := pos2) hc tk M
end Bk

namespace Bk
open PySem PySem.Spec PyProof.Rows L2
/-! ### + of any two lists that can be read -/
def rCatL (K : PySem.W.Frag) : R2 := fun x y H Q => ∃ (l b : Addr) (xs zs : List V), x = .ref l ∧ y = .ref b ∧ SqL K H l xs ∧ SqL K H b zs ∧ xs.length + zs.length ≤ sizeLine ∧ ∀ p, H p = none → Q (.ref p) (upd H p (.lst (xs ++ zs)))
theorem op_catL {X : Cx} : OpR X (binaryOp .Add) (rCatL X.K) := by
  intro pins s σ H x y v u Q I rx ry h
  obtain ⟨l, b, xs, zs, rfl, rfl, hl, hb, hz, q⟩ := h
  cases rx
  cases ry
  obtain ⟨i1, r1, p1, z1⟩ := I.list hl
  obtain ⟨i2, r2, p2, z2⟩ := I.list hb
  have e1 := r1.length
  have e2 := r2.length
  obtain ⟨⟨k1, d1, t1, s1⟩, n1, g1, c1, f1, w1⟩ := p1
  obtain ⟨⟨k2, d2, t2, s2⟩, n2, g2, c2, f2, w2⟩ := p2
  simp only at c1 f1 w1 c2 f2 w2
  subst c1 f1 w1 c2 f2 w2
  refine concat_meets ⟨_, g1, rfl⟩ ⟨_, g2, rfl⟩ noFill_list_add seq_list_add PySem.F.slot_list_add PySem.F.entry_list_add (PySem.F.args_list_add_2 _ _) (list_addW l b i1.toArray i2.toArray n1 n2 none none s1 s2 (by rw [List.size_toArray, List.size_toArray]; omega)) ⟨g1, g2, ?_⟩
  rw [show i1.toArray ++ i2.toArray = (i1 ++ i2).toArray by simp]
  exact ⟨.ref _, _, I.lnew (t' := s.toks) (r1.append r2) (by rw [List.length_append]; omega), rfl, q _ I.fresh⟩
theorem rCatL_r {K : PySem.W.Frag} {l b : Addr} {H : Hp} {Q : VK} : rCatL K (.ref l) (.ref b) H Q = ∃ xs zs, SqL K H l xs ∧ SqL K H b zs ∧ xs.length + zs.length ≤ sizeLine ∧ ∀ p, H p = none → Q (.ref p) (upd H p (.lst (xs ++ zs))) := propext ⟨fun ⟨_, _, xs, zs, e1, e2, h⟩ => by cases e1; cases e2; exact ⟨xs, zs, h⟩, fun ⟨xs, zs, h⟩ => ⟨l, b, xs, zs, rfl, rfl, h⟩⟩
theorem rSlT_r {K : PySem.W.Frag} {a : Addr} {lo hi : Option Int} {H : Hp} {Q : VK} : rSlT K (.ref a) lo hi H Q = ∃ xs, SqT K H a xs ∧ ¬ (HT.sIx xs.length 0 lo = 0 ∧ HT.sIx xs.length xs.length hi = xs.length) ∧ ∀ p, H p = none → Q (.ref p) (upd H p (.tup (cutV xs lo hi))) := propext ⟨fun ⟨_, xs, e, h⟩ => by cases e; exact ⟨xs, h⟩, fun ⟨xs, h⟩ => ⟨a, xs, rfl, h⟩⟩
def rListOf (K : PySem.W.Frag) : List V → Hp → VK → Prop := fun xs H Q => ∃ p ys, xs = [.ref p] ∧ (SqL K H p ys ∨ SqT K H p ys) ∧ ∀ l, H l = none → Q (.ref l) (upd H l (.lst ys))
theorem call_listOf {X : Cx} : CallR X (.type "list") (rListOf X.K) := call_list_of
theorem rListOf_r {K : PySem.W.Frag} {p : Addr} {H : Hp} {Q : VK} : rListOf K [.ref p] H Q = ∃ ys, (SqL K H p ys ∨ SqT K H p ys) ∧ ∀ l, H l = none → Q (.ref l) (upd H l (.lst ys)) := propext ⟨fun ⟨_, ys, e, h⟩ => by cases e; exact ⟨ys, h⟩, fun ⟨ys, h⟩ => ⟨p, ys, rfl, h⟩⟩
theorem seq7 {A1 A2 A3 A4 A5 A6 A7 B : TS} {D : Ends} {σ : L2.St} {H : Hp} (Pm : L2.St → Hp → Prop) (hB : ∀ σ' H', Pm σ' H' → B D σ' H') (hA : ∀ N : L2.St → Hp → Prop, (∀ σ' H', Pm σ' H' → N σ' H') → tSeq A1 (tSeq A2 (tSeq A3 (tSeq A4 (tSeq A5 (tSeq A6 A7))))) { D with nx := N } σ H) : tSeq A1 (tSeq A2 (tSeq A3 (tSeq A4 (tSeq A5 (tSeq A6 (tSeq A7 B)))))) D σ H := hA _ hB
/-- the class's own clause takes its own errors -/
theorem exm_own {K : PySem.W.Frag} {S : Addr} (h1 : PySem.W.subIn K (.ref S) (.type "BaseException") = some true) (h2 : PySem.W.isClsIn K S = true) (h3 : PySem.W.typeIn K (.ref S) = some (.type "type")) (h4 : PySem.W.subIn K (.ref S) (.ref S) = some true) : PySem.W.exmOne K (.ref S) (.ref S) = some true := by
  unfold PySem.W.isClsIn at h2
  simp only [PySem.W.exmOne, PySem.W.kitCls, h1, h2, h3, h4, beq_self_eq_true, Bool.and_self, if_true]
end Bk

namespace Bk
open PySem PySem.Spec PyProof.Rows L2
/-! ### list != []: whatever the list holds -/
def rNeN (K : PySem.W.Frag) : R2 := fun x y H Q => ∃ (l b : Addr) (xs : List V), x = .ref l ∧ y = .ref b ∧ SqL K H l xs ∧ SqL K H b [] ∧ Q (.bl (!decide (xs.length = 0))) H
theorem op_neNil {X : Cx} (hu : X.A.units + 64 < cLine) : OpR X (compareOp .NotEq) (rNeN X.K) := by
  intro pins s σ H x y v u Q I rx ry h
  obtain ⟨l, b, xs, rfl, rfl, hl, hb, q⟩ := h
  by_cases e : xs.length = 0
  · have e' := List.eq_nil_of_length_eq_zero e
    subst e'
    exact op_neD hu pins s σ H _ _ v u Q I rx ry (ne_nilnil hl hb q)
  · cases rx
    cases ry
    obtain ⟨i1, r1, p1, z1⟩ := I.list hl
    obtain ⟨i2, r2, p2, z2⟩ := I.list hb
    have e1 := r1.length
    have e2 := r2.length
    rw [decide_eq_false e] at q
    exact PySem.SeqAt.RcNeAt.lists_lengths p1.isList p2.isList (by rw [List.size_toArray, List.size_toArray, ← e1, ← e2]; exact bne_iff_ne.mpr e) (by omega) _ _ _ _ ⟨.bl _, H, I, rfl, q⟩
theorem rNeN_r {K : PySem.W.Frag} {l b : Addr} {H : Hp} {Q : VK} : rNeN K (.ref l) (.ref b) H Q = ∃ xs, SqL K H l xs ∧ SqL K H b [] ∧ Q (.bl (!decide (xs.length = 0))) H := propext ⟨fun ⟨_, _, xs, e1, e2, h⟩ => by cases e1; cases e2; exact ⟨xs, h⟩, fun ⟨xs, h⟩ => ⟨l, b, xs, rfl, rfl, h⟩⟩
/-- [x for x in .. if ..], of which only is asked whether it is empty -/
theorem lcNil {J : It} {n : Nat} {G : Hp → Prop} {Y : Nat → Hp → V → Hp → Prop} (w : Walk J n G Y) {g : TG} {tt : TT} {te : TE} {vs : List Nat} {σ : L2.St} {H1 : Hp} {D : Addr} {Qd : Hp → Prop} (bs : Nat → Bool) (hD : H1 D = none) (hz : n ≤ 10000)
    (hG : ∀ H, Same H1 H → G H) (hY : ∀ i H x H', Y i H x H' → Same H H')
    (hs : ∀ i x H H', i < n → Same H1 H' → Y i H x H' → ∀ (R1 : V → Hp → Prop) (R0 : Hp → Prop), (bs i = true → ∀ y H4, Same H' H4 → R1 y H4) → (bs i = false → ∀ H4, Same H' H4 → R0 H4) → g x (wipe σ vs) H' fun σ2 H2 => wipe σ2 vs = wipe σ vs ∧ tt σ2 H2 fun b H3 => if b = true then te σ2 H3 R1 else R0 H3)
    (hd : ∀ H acc, Same H1 H → H D = some (.lst acc) → (acc.length = 0 ↔ ∀ j, j < n → bs j = false) → Qd H) : LcR J g tt te vs σ D H1 Qd := by
  refine LcR.by w (fun i H => Same H1 H ∧ ∃ acc, H D = some (.lst acc) ∧ acc.length ≤ i ∧ (acc.length = 0 ↔ ∀ j, j < i → bs j = false)) ⟨same_upd hD, [], upd_same, Nat.le_refl _, ⟨fun _ j hj => by omega, fun _ => rfl⟩⟩ (fun i H _ h => hG H h.1) (fun i x H H' hi h y => ?_) (fun H h => ?_)
  · obtain ⟨s0, acc, ea, hl, hacc⟩ := h
    have sy := hY _ _ _ _ y
    refine hs i x H H' hi (s0.trans sy) y _ _ (fun hb z H4 s4 => ?_) (fun hb H4 s4 => ?_)
    · refine ⟨acc, s4 _ _ (sy _ _ ea), sz100l (by omega), same_mut ((s0.trans sy).trans s4) hD, acc ++ [z], upd_same, by rw [List.length_append, List.length_singleton]; omega, ⟨fun e => ?_, fun e => ?_⟩⟩
      · rw [List.length_append, List.length_singleton] at e
        omega
      · have := e i (by omega)
        rw [hb] at this
        cases this
    · refine ⟨(s0.trans sy).trans s4, acc, s4 _ _ (sy _ _ ea), by omega, hacc.trans ⟨fun e j hj => ?_, fun e j hj => e j (by omega)⟩⟩
      by_cases ej : j = i
      · subst ej
        exact hb
      · exact e j (by omega)
  · obtain ⟨s0, acc, ea, _, hacc⟩ := h
    exact hd H acc s0 ea hacc
end Bk

namespace Bk
open PySem PySem.Spec PyProof.Rows L2
/-! ### i not in range(lo, hi) -/
def rNinr : R2 := fun x y H Q => ∃ (i : Int) (p : Addr) (m n : Int), x = .int i ∧ y = .ref p ∧ H p = some (.rng m n) ∧ Q (.bl (!decide (m ≤ i ∧ i < n))) H
theorem op_ninr {X : Cx} : OpR X (compareOp .NotIn) rNinr := by
  intro pins s σ H x y v u Q I rv ru hh
  obtain ⟨i, p, m, n, e1, e2, hp, q⟩ := hh
  subst e1
  subst e2
  obtain ⟨tk, rfl⟩ := rv
  have eu : u = Value.ref p := ru
  subst eu
  obtain ⟨w1, w2, w3, hob⟩ := I.hok p _ hp
  show wpAny _ _ (do return Value.bool (!(← contains (Value.ref p) (Value.int i tk)))) _ _ s
  have ty : s.TypeIs (Value.ref p) "range" := ⟨_, hob, rfl⟩
  refine wpAny_bind (wpAny_contains_slot ty F.slot_range_contains ?_)
  refine call_meets F.slot_range_contains ty F.entry_range_contains (F.args_range_contains_2 _ _) (q_contains p m n i w1 w2 w3 tk) ⟨hob, ?_⟩
  refine wpAny_truthy_bool (wpAny_pure ?_)
  refine ⟨.bl _, H, I, rfl, ?_⟩
  rw [place1]
  exact q
theorem rNinr_r {i : Int} {a : Addr} {H : Hp} {Q : VK} : rNinr (.int i) (.ref a) H Q = ∃ lo hi, H a = some (.rng lo hi) ∧ Q (.bl (!decide (lo ≤ i ∧ i < hi))) H := propext ⟨fun ⟨_, _, lo, hi, e1, e2, h⟩ => by cases e1; cases e2; exact ⟨lo, hi, h⟩, fun ⟨lo, hi, h⟩ => ⟨i, a, lo, hi, rfl, rfl, h⟩⟩
end Bk

namespace Bk
open PySem PySem.Spec PyProof.Rows L2
/-! ### what is a bakery by the looks has its shape -/
theorem numD_int {d : PyData} (h : numD d = true) : ∃ i, d = .int i := by
  cases d with
  | int i => exact ⟨i, rfl⟩
  | _ => cases h
theorem numsD_of : ∀ ls : List PyData, ls.all numD = true → ∃ ns : List Int, ls = ns.map PyData.int
  | [], _ => ⟨[], rfl⟩
  | d :: r, h => by
    rw [List.all_cons, Bool.and_eq_true] at h
    obtain ⟨i, rfl⟩ := numD_int h.1
    obtain ⟨ns, rfl⟩ := numsD_of r h.2
    exact ⟨i :: ns, rfl⟩
theorem bound_of {d : PyData} (h : boundB d = true) : ∃ o, d = optD o := by
  cases d with
  | none => exact ⟨none, rfl⟩
  | int i => exact ⟨some i, rfl⟩
  | _ => cases h
theorem life_of {d : PyData} (h : lifeB d = true) : ∃ o, d = optD o := by
  cases d with
  | none => exact ⟨none, rfl⟩
  | int i => exact ⟨some i, rfl⟩
  | _ => cases h
theorem day_of {d : PyData} (h : dayB d = true) : ∃ x, d = dayD x := by
  cases d with
  | tuple ds =>
    match ds, h with
    | [d1, d2, d3, d4], h =>
      simp only [dayB, Bool.and_eq_true, Bool.or_eq_true] at h
      obtain ⟨⟨⟨h1, h2⟩, h3⟩, h4⟩ := h
      obtain ⟨i1, rfl⟩ := numD_int h1
      obtain ⟨i2, rfl⟩ := numD_int h2
      obtain ⟨i3, rfl⟩ := numD_int h3
      rcases h4 with h4 | h4
      · cases d4 with
        | none => exact ⟨⟨i1, i2, i3, none⟩, rfl⟩
        | _ => cases h4
      · obtain ⟨i4, rfl⟩ := numD_int h4
        exact ⟨⟨i1, i2, i3, some i4⟩, rfl⟩
  | _ => cases h
theorem days_of : ∀ ls : List PyData, ls.all dayB = true → ∃ ns : List Day, ls = ns.map dayD
  | [], _ => ⟨[], rfl⟩
  | d :: r, h => by
    rw [List.all_cons, Bool.and_eq_true] at h
    obtain ⟨i, rfl⟩ := day_of h.1
    obtain ⟨ns, rfl⟩ := days_of r h.2
    exact ⟨i :: ns, rfl⟩
theorem good_of {n : Nat} {d : PyData} (h : goodB n d = true) : ∃ g, d = goodD g := by
  obtain ⟨ds, l, rfl, _, h2, h3⟩ := goodB_inv h
  obtain ⟨ns, rfl⟩ := days_of ds h3
  obtain ⟨o, rfl⟩ := life_of h2
  exact ⟨⟨ns, o⟩, rfl⟩
theorem goods_of {n : Nat} : ∀ ls : List PyData, ls.all (goodB n) = true → ∃ ns : List Good, ls = ns.map goodD
  | [], _ => ⟨[], rfl⟩
  | d :: r, h => by
    rw [List.all_cons, Bool.and_eq_true] at h
    obtain ⟨i, rfl⟩ := good_of h.1
    obtain ⟨ns, rfl⟩ := goods_of r h.2
    exact ⟨i :: ns, rfl⟩
theorem bakB_bak {d : PyData} (h : bakB d = true) : ∃ b, d = bakD b := by
  obtain ⟨ls, bo, gs, rfl, h1, h2, _, h4⟩ := bakB_inv h
  obtain ⟨ns, rfl⟩ := numsD_of ls (Bool.and_eq_true_iff.mp h1).2
  obtain ⟨o, rfl⟩ := bound_of h2
  obtain ⟨g, rfl⟩ := goods_of gs h4
  exact ⟨⟨ns, o, g⟩, rfl⟩
/-! ### t[::-1] of a tuple -/
def backV {α : Type} (xs : List α) : List α := ((List.range xs.length).map fun (k : Nat) => ((xs.length : Int) - 1 + (k : Int) * -1).toNat).filterMap (xs[·]?)
theorem backV_length {α : Type} (xs : List α) : (backV xs).length = xs.length := by
  unfold backV
  rw [pick_length, List.length_map, List.length_range]
  intro i hi
  obtain ⟨k, hk, rfl⟩ := List.mem_map.mp hi
  have := List.mem_range.mp hk
  omega
section
variable {prog : Program} {w : World} {A : Around} {E : Value → Shared → Prop} {s : Shared}
theorem sliceApplied_back {sl : Addr} {vs : Value} {n : Nat} {Q : Int × Int × Nat → Shared → Prop} (hs : s.heap.IsSliceOf sl .none .none vs) (ps : IsPart vs (some (-1)))
    (h : Q ((n : Int) - 1, -1, n) s) : wpAny (model prog w) A (Builtin.Slice.sliceApplied (.ref sl) (pure (n : Int))) Q E s := by
  obtain ⟨os, hos, hcs, hds⟩ := id hs
  unfold Builtin.Slice.sliceApplied Builtin.Slice.sliceFields
  refine wpAny_bind (wpAny_bind (wpAny_field hos hds (x := .none) rfl (wpAny_bind (wpAny_field hos hds (x := .none) rfl (wpAny_bind (wpAny_field hos hds (x := vs) rfl (wpAny_pure ?_)))))))
  refine wpAny_bind (HT.slicePart_ ps ?_)
  show wpAny _ _ (if ((-1 : Int) == 0) = true then _ else _) _ _ s
  rw [if_neg (by decide)]
  refine wpAny_bind (HT.slicePart_ .none (wpAny_bind (HT.slicePart_ .none (wpAny_bind (wpAny_pure ?_)))))
  show wpAny _ _ (match Builtin.Slice.sliceAdjust none none (-1) (n : Int) with | (lo, hi) => pure (lo, (-1 : Int), Builtin.Slice.slicePlaces lo hi (-1))) _ _ s
  rw [show Builtin.Slice.sliceAdjust none none (-1) (n : Int) = ((n : Int) - 1, -1) from rfl]
  show wpAny _ _ (pure ((n : Int) - 1, (-1 : Int), Builtin.Slice.slicePlaces ((n : Int) - 1) (-1) (-1))) _ _ s
  rw [show Builtin.Slice.slicePlaces ((n : Int) - 1) (-1) (-1) = n by
    unfold Builtin.Slice.slicePlaces
    rw [if_neg (by decide)]
    by_cases h0 : (n : Int) - 1 > -1
    · rw [if_pos h0, show (- -1 : Int) = 1 by decide, Int.ediv_one]
      omega
    · rw [if_neg h0]
      omega]
  exact wpAny_pure h
theorem getItem_tuple_back {t sl : Addr} {items : Array Value} {vs : Value} {Q : Value → Shared → Prop} (ht : IsTup s.heap t items) (hs : s.heap.IsSliceOf sl .none .none vs) (ps : IsPart vs (some (-1)))
    (h : Q (.ref s.heap.objs.size) { s with heap := s.heap.push { cls := .type "tuple", data := .seq (backV items.toList).toArray } })
    (hsz : items.size ≤ sizeLine) : wpAny (model prog w) A (getItem (.ref t) (.ref sl)) Q E s := by
  have htake : sizeOk (.seq (backV items.toList).toArray) := by
    show (backV items.toList).toArray.size ≤ sizeLine
    rw [List.size_toArray, backV_length, Array.length_toList]
    exact hsz
  obtain ⟨os, hos, hcs, hds⟩ := id hs
  have hTs : s.TypeIs (.ref sl) "slice" := ⟨os, hos, hcs⟩
  unfold getItem
  try with_reducible refine wpAny_holding ?_
  first | refine wpAny_bind (wpAny_pure ?_) | skip
  refine wpAny_bind (wpAny_sequenceKey ht.typeIs (by decide) ?_)
  refine wpAny_bind (wpAny_callSpecial?_slot (name := Str.ofString "__getitem__") ht.typeIs PyProof.Rows.slot_tuple_getitem
    (wpAny_call_entry PyProof.Rows.slot_tuple_getitem ht.typeIs entry_tuple_getitem ?_ (args_tuple_getitem _ _)))
  show wpAny _ _ (Builtin.Tuple.tupleItemsOf (.ref t) >>= _) _ _ s
  refine wpAny_bind (tupleItemsOf_ ht ?_)
  refine wpAny_bind (wpAny_typeOf hTs ?_)
  rw [if_pos (by decide)]
  refine wpAny_bind (sliceApplied_back hs ps ?_)
  have hno : ¬ ((((items.size : Int) - 1) == 0 && (-1 : Int) == 1 && items.size == items.size) = true) := by
    intro q
    rw [Bool.and_eq_true, Bool.and_eq_true] at q
    exact absurd q.1.2 (by decide)
  show wpAny _ _ (if (((items.size : Int) - 1) == 0 && (-1 : Int) == 1 && items.size == items.size) = true then _ else _) _ _ s
  have epick : ((List.range items.size).filterMap fun (k : Nat) => items[((items.size : Int) - 1 + (k : Int) * -1).toNat]?).toArray = (backV items.toList).toArray := by
    unfold backV
    rw [List.filterMap_map, Array.length_toList]
    congr 1
    congr 1
    funext k
    simp
  rw [if_neg hno, epick]
  first
    | exact wpAny_bind (m := Builtin.Tuple.tupleExact _) (wpAny_newObj_type (wpAny_pure ⟨_, rfl, wpAny_pure h⟩) htake)
    | exact wpAny_bind (m := Builtin.Tuple.tupleExact _) (wpAny_newObj_type (wpAny_bind (wpAny_pure (wpAny_pure ⟨_, rfl, wpAny_pure h⟩))) htake)
    | exact wpAny_bind (wpAny_bind (m := Builtin.Tuple.tupleExact _) (wpAny_newObj_type (wpAny_pure (wpAny_pure ⟨_, rfl, wpAny_pure h⟩)) htake))
    | exact wpAny_bind (wpAny_bind (m := Builtin.Tuple.tupleExact _) (wpAny_newObj_type (wpAny_pure ⟨_, rfl, wpAny_pure h⟩) htake))
end
def tBackT (K : PySem.W.Frag) (te : TE) (tl th ts : TO) : TE := fun σ H Q => te σ H fun x H1 => tl σ H1 fun l H2 => th σ H2 fun u H3 => ts σ H3 fun st H4 => ∃ a xs, x = .ref a ∧ SqT K H4 a xs ∧ l = none ∧ u = none ∧ st = some (-1) ∧
  ∀ p, H4 p = none → Q (.ref p) (upd H4 p (.tup (backV xs)))
theorem pe_backT {X : Cx} {e : Expr} {lo hi st : Option Expr} {te : TE} {tl th ts : TO} {p3 pos : Pos} (he : PE X e te) (hl : PO X lo tl) (hu : PO X hi th) (hst : PO X st ts)
    (hsub : ∀ a i, subscripted (.Slice lo hi st p3) false a i = operate [a, i] (getItem a i) := by intro _ _; with_unfolding_all rfl) : PE X (.Subscript e (.Slice lo hi st p3) pos) (tBackT X.K te tl th ts) := by
  refine ⟨fun pins s σ H Q I h => ?_⟩
  refine Subscript_ (thn (he.run pins s σ H _ I h) fun v s1 ⟨x, H1, I1, r1, q1⟩ => ?_)
  refine wpAny_Slice (thn (hl.run pins s1 σ H1 _ I1 q1) fun vl s2 ⟨l, H2, I2, pl, q2⟩ => ?_)
  refine thn (hu.run pins s2 σ H2 _ I2 q2) fun vu s3 ⟨u, H3, I3, pu, q3⟩ => ?_
  refine thn (hst.run pins s3 σ H3 _ I3 q3) fun vs s4 ⟨o, H4, I4, ps, q4⟩ => ?_
  obtain ⟨a, xs, ex, hx, e1, e2, e3, q⟩ := q4
  subst ex e1 e2 e3
  cases r1
  cases pl
  cases pu
  have I5 : Inv X pins σ H4 { s4 with heap := s4.heap.push { cls := .type "slice", data := .fields #[.none, .none, vs] } } := I4.kept (t' := s4.toks) fun b ob q => Heap.get?_push_of_some _ q
  obtain ⟨its, r, ht, hz⟩ := I5.tuple hx
  have hlen := r.length
  show wpAny (model X.prog X.w) X.A (subscriptTail e (.Slice lo hi st p3) (.ref a) (.ref s4.heap.objs.size)) (EP X pins σ Q) X.xe { s4 with heap := s4.heap.push { cls := .type "slice", data := .fields #[.none, .none, vs] } }
  refine tail_any (ops := [.ref a, .ref s4.heap.objs.size]) ht.typeIs (PyProof.Rows.slot_tuple_getitem.lookup) ?_ (hsub _ _)
  refine getItem_tuple_back ht (Heap.IsSliceOf.new _ .none .none vs) ps ?_ (by rw [List.size_toArray]; omega)
  have rp : Vals (backV xs) (backV its) := by
    have := vals_pick r ((List.range xs.length).map fun (k : Nat) => ((xs.length : Int) - 1 + (k : Int) * -1).toNat)
    unfold backV
    rw [← hlen]
    exact this
  show EP X pins σ Q _ { s4 with heap := (s4.heap.push { cls := .type "slice", data := .fields #[.none, .none, vs] }).push { cls := .type "tuple", data := .seq (backV its).toArray } }
  refine ⟨.ref _, _, I5.laid (t' := s4.toks) (o := .tup (backV xs)) (fun b ob q => Heap.get?_push_of_some _ q) (Nat.le_refl _) ?_, rfl, q _ (I5.hok.fresh (Nat.le_refl _))⟩
  exact ⟨by rw [backV_length]; omega, _, rp, IsTup.new _ _⟩
/-! ### expressions that tell some data, whatever they are -/
def Grow (R : Hp → V → Prop) : Prop := ∀ H H' y, Same H H' → R H y → R H' y
def Ye (R : Hp → V → Prop) (te : TE) (σ : L2.St) (H : Hp) : Prop := ∀ H1, Same H H1 → ∀ Q : VK, (∀ H2 y, Same H1 H2 → R H2 y → Q y H2) → te σ H1 Q
def Ya (R : Hp → List V → Prop) (ta : TA) (σ : L2.St) (H : Hp) : Prop := ∀ H1, Same H H1 → ∀ Q : List V → Hp → Prop, (∀ H2 ys, Same H1 H2 → R H2 ys → Q ys H2) → ta σ H1 Q
def Yo (to : TO) (σ : L2.St) (H : Hp) : Prop := ∀ H1, Same H H1 → ∀ Q : Option Int → Hp → Prop, (∀ H2 o, Same H1 H2 → Q o H2) → to σ H1 Q
def Yt (tt : TT) (σ : L2.St) (H : Hp) : Prop := ∀ H1, Same H H1 → ∀ Q : Bool → Hp → Prop, (∀ H2 b, Same H1 H2 → Q b H2) → tt σ H1 Q
def AnyD (K : PySem.W.Frag) : Hp → V → Prop := fun H y => ∃ d, Th K H y d
def TupD (K : PySem.W.Frag) (n : Nat) : Hp → V → Prop := fun H y => ∃ ds, ds.length ≤ n ∧ Th K H y (.tuple ds)
def LstD (K : PySem.W.Frag) (n : Nat) : Hp → V → Prop := fun H y => ∃ ds, ds.length ≤ n ∧ Th K H y (.list ds)
def LstE (K : PySem.W.Frag) (n : Nat) : Hp → V → Prop := fun H y => ∃ ds, ds.length = n ∧ Th K H y (.list ds)
def AllD (K : PySem.W.Frag) (n : Nat) : Hp → List V → Prop := fun H ys => ∃ ds, ds.length = n ∧ ThAll K H ys ds
def IntD (P : Int → Prop) : Hp → V → Prop := fun _ y => ∃ i, y = .int i ∧ P i
section
variable {K : PySem.W.Frag} {σ : L2.St} {H : Hp} {te ta tb : TE} {R R' : Hp → V → Prop}
theorem Ye.at (h : Ye R te σ H) {H1 : Hp} (S : Same H H1) {Q : VK} (q : ∀ H2 y, Same H1 H2 → R H2 y → Q y H2) : te σ H1 Q := h H1 S Q q
theorem Ye.same (h : Ye R te σ H) {H1 : Hp} (S : Same H H1) : Ye R te σ H1 := fun H2 S2 => h H2 (S.trans S2)
theorem Ye.weak (h : Ye R te σ H) (w : ∀ H y, R H y → R' H y) : Ye R' te σ H := fun H1 S Q q => h H1 S Q fun H2 y S2 r => q H2 y S2 (w _ _ r)
theorem Ye.tup {n : Nat} (h : Ye (TupD K n) te σ H) : Ye (AnyD K) te σ H := h.weak fun _ _ ⟨ds, _, t⟩ => ⟨_, t⟩
theorem Ye.lst {n : Nat} (h : Ye (LstD K n) te σ H) : Ye (AnyD K) te σ H := h.weak fun _ _ ⟨ds, _, t⟩ => ⟨_, t⟩
theorem Ye.lstE {n : Nat} (h : Ye (LstE K n) te σ H) : Ye (AnyD K) te σ H := h.weak fun _ _ ⟨ds, _, t⟩ => ⟨_, t⟩
theorem Ye.exact {n : Nat} (h : Ye (LstE K n) te σ H) : Ye (LstD K n) te σ H := h.weak fun _ _ ⟨ds, e, t⟩ => ⟨_, Nat.le_of_eq e, t⟩
theorem Ye.int {P : Int → Prop} (h : Ye (IntD P) te σ H) : Ye (AnyD K) te σ H := h.weak fun _ _ ⟨i, e, _⟩ => ⟨.int i, by rw [e]; exact .int i⟩
theorem grow_any : Grow (AnyD K) := fun _ _ _ S ⟨d, t⟩ => ⟨d, t.same S⟩
theorem grow_tup {n : Nat} : Grow (TupD K n) := fun _ _ _ S ⟨d, e, t⟩ => ⟨d, e, t.same S⟩
theorem grow_lst {n : Nat} : Grow (LstD K n) := fun _ _ _ S ⟨d, e, t⟩ => ⟨d, e, t.same S⟩
theorem grow_lstE {n : Nat} : Grow (LstE K n) := fun _ _ _ S ⟨d, e, t⟩ => ⟨d, e, t.same S⟩
theorem ye_var {i : Nat} {v : V} (hm : Grow R) (e : σ[i]? = some (some v)) (h : R H v) : Ye R (tVar i) σ H := fun H1 S Q q => ⟨v, e, q H1 v (Same.refl _) (hm _ _ _ S h)⟩
theorem ye_vI {i : Nat} {z : Int} {P : Int → Prop} (e : σ[i]? = some (some (.int z))) (h : P z) : Ye (IntD P) (tVar i) σ H := fun H1 S Q q => ⟨_, e, q H1 _ (Same.refl _) ⟨z, rfl, h⟩⟩
theorem ye_i {z : Int} {P : Int → Prop} (h : P z) : Ye (IntD P) (tC (.int z)) σ H := fun H1 _ Q q => q H1 _ (Same.refl _) ⟨z, rfl, h⟩
theorem ye_ci {z : Int} : Ye (AnyD K) (tC (.int z)) σ H := fun H1 _ Q q => q H1 _ (Same.refl _) ⟨_, .int z⟩
theorem ye_cb {z : Bool} : Ye (AnyD K) (tC (.bl z)) σ H := fun H1 _ Q q => q H1 _ (Same.refl _) ⟨_, .bl z⟩
theorem ye_cn : Ye (AnyD K) (tC .non) σ H := fun H1 _ Q q => q H1 _ (Same.refl _) ⟨_, .non⟩
theorem ye_cs {z : Str} : Ye (AnyD K) (tC (.str z)) σ H := fun H1 _ Q q => q H1 _ (Same.refl _) ⟨_, .str z⟩
theorem ye_neg {P P' : Int → Prop} (h : Ye (IntD P) te σ H) (hp : ∀ i, P i → P' (-i)) : Ye (IntD P') (tUn (rU fun i => .int (-i)) te) σ H := fun H1 S Q q => h H1 S _ fun H2 y S2 ⟨i, e, p⟩ => ⟨i, e, q H2 _ S2 ⟨_, rfl, hp i p⟩⟩
theorem ye_I0 {f : Int → Int → Int} {P P1 P2 : Int → Prop} (ha : Ye (IntD P1) ta σ H) (hb : Ye (IntD P2) tb σ H) (hp : ∀ i j, P1 i → P2 j → P (f i j)) : Ye (IntD P) (tOp (rI0 fun i j => .int (f i j)) ta tb) σ H :=
  fun H1 S Q q => ha H1 S _ fun H2 y S2 ⟨i, e, p1⟩ => hb H2 (S.trans S2) _ fun H3 z S3 ⟨j, e2, p2⟩ => ⟨i, j, e, e2, q H3 _ (S2.trans S3) ⟨_, rfl, hp i j p1 p2⟩⟩
theorem ye_I {C : Int → Int → Prop} {f : Int → Int → Int} {P P1 P2 : Int → Prop} (ha : Ye (IntD P1) ta σ H) (hb : Ye (IntD P2) tb σ H) (hp : ∀ i j, P1 i → P2 j → C i j ∧ P (f i j)) : Ye (IntD P) (tOp (rI C fun i j => .int (f i j)) ta tb) σ H :=
  fun H1 S Q q => ha H1 S _ fun H2 y S2 ⟨i, e, p1⟩ => hb H2 (S.trans S2) _ fun H3 z S3 ⟨j, e2, p2⟩ => ⟨i, j, e, e2, (hp i j p1 p2).1, q H3 _ (S2.trans S3) ⟨_, rfl, (hp i j p1 p2).2⟩⟩
theorem ye_mod {n : Int} {P : Int → Prop} (h : Ye (IntD P) te σ H) (hn : 0 < n) : Ye (IntD fun i => 0 ≤ i ∧ i < n) (tOp (rI (fun _ j => 0 < j) fun i j => .int (i % j)) te (tC (.int n))) σ H :=
  ye_I h (ye_i (P := fun j => j = n) rfl) fun i j _ e => by subst e; exact ⟨hn, Int.emod_nonneg _ (by omega), Int.emod_lt_of_pos _ hn⟩
theorem ye_pow {a b : Int} (h : CPow a b) : Ye (IntD fun _ => True) (tOp (rI CPow fun i j => .int (i ^ j.toNat)) (tC (.int a)) (tC (.int b))) σ H :=
  ye_I (ye_i (P := fun j => j = a) rfl) (ye_i (P := fun j => j = b) rfl) fun i j e1 e2 => by subst e1 e2; exact ⟨h, trivial⟩
theorem ye_dict : Ye (AnyD K) tDNewK σ H := fun H1 S Q q p hp => q _ _ (same_upd hp) ⟨_, .dic upd_same⟩
theorem ya_nil : Ya (AllD K 0) tNil σ H := fun H1 _ Q q => q H1 _ (Same.refl _) ⟨[], rfl, .nil⟩
theorem ya_cons {n : Nat} {ts : TA} (he : Ye (AnyD K) te σ H) (ha : Ya (AllD K n) ts σ H) : Ya (AllD K (n + 1)) (tCons te ts) σ H :=
  fun H1 S Q q => he H1 S _ fun H2 y S2 ⟨d, t⟩ => ha H2 (S.trans S2) _ fun H3 ys S3 ⟨ds, e, ts⟩ => q H3 _ (S2.trans S3) ⟨d :: ds, by rw [List.length_cons, e], .cons (t.same S3) ts⟩
theorem ye_lst {n : Nat} {ts : TA} (ha : Ya (AllD K n) ts σ H) (hn : n ≤ 100000 := by decide) : Ye (LstE K n) (tLst ts) σ H :=
  fun H1 S Q q => ha H1 S _ fun H2 ys S2 ⟨ds, e, t⟩ => ⟨sz100 (by rw [t.length, e]; exact hn), fun p hp => q _ _ (S2.trans (same_upd hp)) ⟨ds, e, .lst (SqL.of upd_same) (t.same (same_upd hp))⟩⟩
theorem ye_tup {n : Nat} {ts : TA} (ha : Ya (AllD K n) ts σ H) (hn : n ≤ 100000 := by decide) : Ye (TupD K n) (tTup ts) σ H :=
  fun H1 S Q q => ha H1 S _ fun H2 ys S2 ⟨ds, e, t⟩ => ⟨sz100 (by rw [t.length, e]; exact hn), fun p hp => q _ _ (S2.trans (same_upd hp)) ⟨ds, Nat.le_of_eq e, .tup (SqT.of upd_same) (t.same (same_upd hp))⟩⟩
theorem ye_ixE {n : Nat} {m : Int} (ha : Ye (LstE K n) ta σ H) (hb : Ye (IntD fun i => 0 ≤ i ∧ i < m) tb σ H) (hm : m ≤ (n : Int) := by decide) : Ye (AnyD K) (tOp (rIxL K) ta tb) σ H := by
  refine fun H1 S Q q => ha H1 S _ fun H2 y S2 ⟨ds, e, t⟩ => hb H2 (S.trans S2) _ fun H3 z S3 ⟨j, e2, p1, p2⟩ => ?_
  subst e2
  have t3 := t.same S3
  cases t3 with
  | @lst a xs _ hs ha =>
    have hl := ha.length
    have hj : xs[j.toNat]? = some xs[j.toNat] := List.getElem?_eq_getElem (by omega)
    obtain ⟨d, _, hd⟩ := ha.get hj
    exact ⟨a, xs, j, _, rfl, rfl, hs, atI_of p1 hj, q H3 _ (S2.trans S3) ⟨d, hd⟩⟩
theorem ye_dig {k : Nat} {pd : Addr} {fs : List Int} {i : Nat} {f : Int} (e : σ[k]? = some (some (.ref pd))) (h : SqL K H pd (fs.map V.int)) (hf : fs[i]? = some f) : Ye (IntD fun z => z = f) (tOp (rIxL K) (tVar k) (tC (.int (i : Int)))) σ H :=
  fun H1 S Q q => ⟨_, e, ⟨pd, fs.map V.int, (i : Int), .int f, rfl, rfl, S.seq h, atI_nat (by rw [List.getElem?_map, hf]; rfl), q H1 _ (Same.refl _) ⟨f, rfl, rfl⟩⟩⟩
theorem yo_none : Yo tNoPart σ H := fun H1 _ Q q => q H1 _ (Same.refl _)
theorem yo_some {P : Int → Prop} (h : Ye (IntD P) te σ H) : Yo (tPart te) σ H := fun H1 S Q q => h H1 S _ fun H2 y S2 ⟨i, e, _⟩ => ⟨i, e, q H2 _ S2⟩
theorem thAll_cut {H : Hp} {xs : List V} {ds : List PyData} (h : ThAll K H xs ds) (a b : Nat) : ThAll K H ((xs.drop a).take b) ((ds.drop a).take b) := (h.drop a).take b
theorem ye_slT {n : Nat} {tl th : TO} (h : Ye (TupD K n) te σ H) (hl : Yo tl σ H) (hh : Yo th σ H) : Ye (TupD K n) (tSl (rSlA K) te tl th) σ H := by
  refine fun H1 S Q q => h H1 S _ fun H2 y S2 ⟨ds, e, t⟩ => hl H2 (S.trans S2) _ fun H3 lo S3 => hh H3 (S.trans (S2.trans S3)) _ fun H4 hi S4 => ?_
  have S24 := S2.trans (S3.trans S4)
  have t3 := t.same (S3.trans S4)
  cases t3 with
  | @tup a xs _ hs ha =>
    refine ⟨a, xs, rfl, hs, fun _ => q _ _ S24 ⟨ds, e, .tup hs ha⟩, fun _ p hp => q _ _ (S24.trans (same_upd hp)) ⟨_, ?_, .tup (SqT.of upd_same) ((thAll_cut ha _ _).same (same_upd hp))⟩⟩
    rw [List.length_take, List.length_drop]
    omega
theorem ye_slL {n : Nat} {tl th : TO} (h : Ye (LstD K n) te σ H) (hl : Yo tl σ H) (hh : Yo th σ H) : Ye (LstD K n) (tSl (rSlL K) te tl th) σ H := by
  refine fun H1 S Q q => h H1 S _ fun H2 y S2 ⟨ds, e, t⟩ => hl H2 (S.trans S2) _ fun H3 lo S3 => hh H3 (S.trans (S2.trans S3)) _ fun H4 hi S4 => ?_
  have S24 := S2.trans (S3.trans S4)
  have t3 := t.same (S3.trans S4)
  cases t3 with
  | @lst a xs _ hs ha =>
    refine ⟨a, xs, rfl, hs, fun p hp => q _ _ (S24.trans (same_upd hp)) ⟨_, ?_, .lst (SqL.of upd_same) ((thAll_cut ha _ _).same (same_upd hp))⟩⟩
    rw [List.length_take, List.length_drop]
    omega
theorem thAll_app2 {H : Hp} {ys : List V} {es : List PyData} (h2 : ThAll K H ys es) : ∀ {xs : List V} {ds : List PyData}, ThAll K H xs ds → ThAll K H (xs ++ ys) (ds ++ es)
  | _, _, .nil => h2
  | _, _, .cons a b => .cons a (thAll_app2 h2 b)
theorem ye_catL {n m : Nat} (ha : Ye (LstD K n) ta σ H) (hb : Ye (LstD K m) tb σ H) (hz : n + m ≤ 100000 := by decide) : Ye (LstD K (n + m)) (tOp (rCatL K) ta tb) σ H := by
  refine fun H1 S Q q => ha H1 S _ fun H2 y S2 ⟨ds, e, t⟩ => hb H2 (S.trans S2) _ fun H3 z S3 ⟨es, e2, t2⟩ => ?_
  have t3 := t.same S3
  cases t3 with
  | @lst a xs _ hs ha =>
    cases t2 with
    | @lst b ys _ hs2 ha2 =>
      refine ⟨a, b, xs, ys, rfl, rfl, hs, hs2, sz100 (by rw [ha.length, ha2.length]; omega), fun p hp => q _ _ ((S2.trans S3).trans (same_upd hp)) ⟨ds ++ es, by rw [List.length_append]; omega, .lst (SqL.of upd_same) ((thAll_app2 ha2 ha).same (same_upd hp))⟩⟩
theorem ye_catE {n m : Nat} (ha : Ye (LstE K n) ta σ H) (hb : Ye (LstE K m) tb σ H) (hz : n + m ≤ 100000 := by decide) : Ye (LstE K (n + m)) (tOp (rCatL K) ta tb) σ H := by
  refine fun H1 S Q q => ha H1 S _ fun H2 y S2 ⟨ds, e, t⟩ => hb H2 (S.trans S2) _ fun H3 z S3 ⟨es, e2, t2⟩ => ?_
  have t3 := t.same S3
  cases t3 with
  | @lst a xs _ hs ha =>
    cases t2 with
    | @lst b ys _ hs2 ha2 =>
      refine ⟨a, b, xs, ys, rfl, rfl, hs, hs2, sz100 (by rw [ha.length, ha2.length]; omega), fun p hp => q _ _ ((S2.trans S3).trans (same_upd hp)) ⟨ds ++ es, by rw [List.length_append]; omega, .lst (SqL.of upd_same) ((thAll_app2 ha2 ha).same (same_upd hp))⟩⟩
theorem ye_catT {n m : Nat} (ha : Ye (TupD K n) ta σ H) (hb : Ye (TupD K m) tb σ H) (hz : n + m ≤ 100000 := by decide) : Ye (TupD K (n + m)) (tOp (rCatA K) ta tb) σ H := by
  refine fun H1 S Q q => ha H1 S _ fun H2 y S2 ⟨ds, e, t⟩ => hb H2 (S.trans S2) _ fun H3 z S3 ⟨es, e2, t2⟩ => ?_
  have t3 := t.same S3
  cases t3 with
  | @tup a xs _ hs ha =>
    cases t2 with
    | @tup b ys _ hs2 ha2 =>
      refine ⟨a, b, xs, ys, rfl, rfl, hs, hs2, sz100 (by rw [ha.length, ha2.length]; omega), fun _ => q _ _ (S2.trans S3) ⟨es, by omega, .tup hs2 ha2⟩, fun _ _ => q _ _ (S2.trans S3) ⟨ds, by omega, .tup hs ha⟩, fun _ _ p hp => q _ _ ((S2.trans S3).trans (same_upd hp)) ⟨ds ++ es, by rw [List.length_append]; omega, .tup (SqT.of upd_same) ((thAll_app2 ha2 ha).same (same_upd hp))⟩⟩
theorem thAll_pick {H : Hp} {xs : List V} {ds : List PyData} (r : ThAll K H xs ds) : ∀ is : List Nat, ThAll K H (is.filterMap (xs[·]?)) (is.filterMap (ds[·]?))
  | [] => .nil
  | i :: is => by
    have ih := thAll_pick r is
    have hl := r.length
    by_cases hi : i < xs.length
    · obtain ⟨d, e2, r2⟩ := r.get (List.getElem?_eq_getElem hi)
      rw [List.filterMap_cons_some (List.getElem?_eq_getElem hi), List.filterMap_cons_some e2]
      exact .cons r2 ih
    · rw [List.filterMap_cons_none (List.getElem?_eq_none (by omega)), List.filterMap_cons_none (List.getElem?_eq_none (by omega))]
      exact ih
theorem ye_backT {n : Nat} (h : Ye (TupD K n) te σ H) : Ye (TupD K n) (tBackT K te tNoPart tNoPart (tPart (tUn (rU fun i => .int (-i)) (tC (.int 1))))) σ H := by
  refine fun H1 S Q q => h H1 S _ fun H2 y S2 ⟨ds, e, t⟩ => ⟨1, rfl, _, rfl, ?_⟩
  cases t with
  | @tup a xs _ hs ha =>
    refine ⟨a, xs, rfl, hs, rfl, rfl, rfl, fun p hp => q _ _ (S2.trans (same_upd hp)) ⟨backV ds, by rw [backV_length]; exact e, .tup (SqT.of upd_same) ?_⟩⟩
    have := thAll_pick ha ((List.range xs.length).map fun (k : Nat) => ((xs.length : Int) - 1 + (k : Int) * -1).toNat)
    unfold backV
    rw [← ha.length]
    exact this.same (same_upd hp)
theorem ye_listOf {n : Nat} (h : Ye (TupD K n) te σ H) : Ye (LstD K n) (tCB (rListOf K) (tCons te tNil)) σ H := by
  refine fun H1 S Q q => h H1 S _ fun H2 y S2 ⟨ds, e, t⟩ => ?_
  cases t with
  | tup hs ha =>
    exact ⟨_, _, rfl, .inr hs, fun l hl => q _ _ (S2.trans (same_upd hl)) ⟨ds, e, .lst (SqL.of upd_same) (ha.same (same_upd hl))⟩⟩
def rTupOf (K : PySem.W.Frag) : List V → Hp → VK → Prop := fun xs H Q => ∃ p ys, xs = [.ref p] ∧ ((SqL K H p ys ∧ ∀ l, H l = none → Q (.ref l) (upd H l (.tup ys))) ∨ (SqT K H p ys ∧ Q (.ref p) H))
theorem call_tupOf {X : Cx} : CallR X (.type "tuple") (rTupOf X.K) := call_tuple_of
theorem ye_tupOf {n : Nat} (h : Ye (LstD K n) te σ H) : Ye (TupD K n) (tCB (rTupOf K) (tCons te tNil)) σ H := by
  refine fun H1 S Q q => h H1 S _ fun H2 y S2 ⟨ds, e, t⟩ => ?_
  cases t with
  | lst hs ha =>
    exact ⟨_, _, rfl, .inl ⟨hs, fun l hl => q _ _ (S2.trans (same_upd hl)) ⟨ds, e, .tup (SqT.of upd_same) (ha.same (same_upd hl))⟩⟩⟩
def LstT (K : PySem.W.Frag) (n : Nat) : Hp → V → Prop := fun H y => ∃ a xs ds, y = .ref a ∧ H a = some (.lst xs) ∧ ThAll K H xs ds ∧ ds.length ≤ n
theorem grow_lstT {n : Nat} : Grow (LstT K n) := fun _ _ _ S ⟨a, xs, ds, e, h, t, l⟩ => ⟨a, xs, ds, e, S _ _ h, t.same S, l⟩
theorem Ye.trk {n : Nat} (h : Ye (LstT K n) te σ H) : Ye (LstD K n) te σ H := h.weak fun _ _ ⟨a, xs, ds, e, h, t, l⟩ => ⟨ds, l, by rw [e]; exact .lst (SqL.of h) t⟩
theorem ye_slLT {n : Nat} {tl th : TO} (h : Ye (LstD K n) te σ H) (hl : Yo tl σ H) (hh : Yo th σ H) : Ye (LstT K n) (tSl (rSlL K) te tl th) σ H := by
  refine fun H1 S Q q => h H1 S _ fun H2 y S2 ⟨ds, e, t⟩ => hl H2 (S.trans S2) _ fun H3 lo S3 => hh H3 (S.trans (S2.trans S3)) _ fun H4 hi S4 => ?_
  have S24 := S2.trans (S3.trans S4)
  have t3 := t.same (S3.trans S4)
  cases t3 with
  | @lst a xs _ hs ha =>
    refine ⟨a, xs, rfl, hs, fun p hp => q _ _ (S24.trans (same_upd hp)) ⟨p, _, _, rfl, upd_same, (thAll_cut ha _ _).same (same_upd hp), ?_⟩⟩
    rw [List.length_take, List.length_drop]
    omega
theorem thAll_rep {H : Hp} {vs : List V} {ds : List PyData} (h : ThAll K H vs ds) : ∀ n : Nat, ThAll K H (List.replicate n vs).flatten (List.replicate n ds).flatten
  | 0 => .nil
  | n + 1 => by
    rw [List.replicate_succ, List.replicate_succ, List.flatten_cons, List.flatten_cons]
    exact thAll_app2 (thAll_rep h n) h
theorem len_rep {α : Type} (xs : List α) : ∀ k : Nat, (List.replicate k xs).flatten.length = xs.length * k
  | 0 => rfl
  | k + 1 => by
    rw [List.replicate_succ, List.flatten_cons, List.length_append, len_rep xs k, Nat.mul_succ, Nat.add_comm]
theorem ye_rep {n k : Nat} (h : Ye (LstT K n) te σ H) (hz : n * k ≤ 100000 := by decide) (hk : (k : Int) < 2 ^ 63 := by decide) : Ye (LstT K (n * k)) (tOp rRep te (tC (.int (k : Int)))) σ H := by
  refine fun H1 S Q q => h H1 S _ fun H2 y S2 ⟨a, xs, ds, e, h, t, l⟩ => ?_
  subst e
  have hl := t.length
  have hz' : ds.length * k ≤ n * k := Nat.mul_le_mul_right k l
  refine ⟨a, _, xs, rfl, rfl, h, by omega, hk, sz100 (by rw [Int.toNat_natCast, hl]; omega), fun p hp => q _ _ (S2.trans (same_upd hp)) ⟨p, _, _, rfl, upd_same, (thAll_rep t _).same (same_upd hp), ?_⟩⟩
  rw [Int.toNat_natCast, len_rep]
  exact hz'
theorem ye_add {P1 P2 : Int → Prop} (ha : Ye (IntD P1) ta σ H) (hb : Ye (IntD P2) tb σ H) : Ye (IntD fun _ => True) (tOp (rI0 fun i j => .int (i + j)) ta tb) σ H := ye_I0 ha hb fun _ _ _ _ => trivial
theorem ye_call {sp : Sp} {ts : TA} {Rs : Hp → List V → Prop} (ha : Ya Rs ts σ H) (hs : ∀ H1 vs Q, Same H H1 → Rs H1 vs → (∀ H2 y, Same H1 H2 → R H2 y → Q y H2) → sp (vs ++ []) H1 Q E0) : Ye R (tCall sp [] E0 ts) σ H :=
  fun H1 S Q q => ha H1 S _ fun H2 ys S2 h => hs H2 ys Q (S.trans S2) h fun H3 y S3 r => q H3 y (S2.trans S3) r
theorem yt_cmp {g : Int → Int → Bool} {P1 P2 : Int → Prop} (ha : Ye (IntD P1) ta σ H) (hb : Ye (IntD P2) tb σ H) : Yt (tTest (tOp (rI0 fun i j => .bl (g i j)) ta tb)) σ H :=
  fun H1 S Q q => ha H1 S _ fun H2 y S2 ⟨i, e, _⟩ => hb H2 (S.trans S2) _ fun H3 z S3 ⟨j, e2, _⟩ => ⟨i, j, e, e2, _, rfl, q H3 _ (S2.trans S3)⟩
theorem yt_eq {P1 P2 : Int → Prop} (ha : Ye (IntD P1) ta σ H) (hb : Ye (IntD P2) tb σ H) : Yt (tTest (tOp rEq ta tb)) σ H :=
  fun H1 S Q q => ha H1 S _ fun H2 y S2 ⟨i, e, _⟩ => hb H2 (S.trans S2) _ fun H3 z S3 ⟨j, e2, _⟩ => ⟨by rw [e, e2]; rfl, _, rfl, q H3 _ (S2.trans S3)⟩
/-! ### rows of a block, one by one -/
section
variable {A B C : TS} {D : Ends} {tt : TT}
theorem s_asg {i : Nat} (h : Ye R te σ H) (k : ∀ H2 y, Same H H2 → R H2 y → B D (σ.set i (some y)) H2) : tSeq (tAsg te (gName i)) B D σ H := h H (Same.refl _) _ fun H2 y S r => k H2 y S r
theorem s_ret (h : Ye R te σ H) (k : ∀ H2 y, Same H H2 → R H2 y → D.rt y H2) : tRet te D σ H := h H (Same.refl _) _ fun H2 y S r => k H2 y S r
theorem s_if (h : Yt tt σ H) (k1 : ∀ H2, Same H H2 → A { D with nx := C D } σ H2) (k2 : ∀ H2, Same H H2 → C D σ H2) : tSeq (tIfS tt A tNext) C D σ H := h H (Same.refl _) _ fun H2 b S => by
  cases b with
  | true => exact k1 H2 S
  | false => exact k2 H2 S
theorem s_unp2 {i a b : Nat} {p : Addr} {x y : V} (e : σ[i]? = some (some (.ref p))) (h : SqT K H p [x, y]) (k : C D ((σ.set a (some x)).set b (some y)) H) : tSeq (tAsg (tVar i) (gTup K 2 (gCons (gName a) (gCons (gName b) gNil)))) C D σ H := ⟨_, e, ⟨p, _, rfl, h, rfl, ⟨_, _, rfl, _, _, rfl, rfl, k⟩⟩⟩
theorem s_unp3 {i a b c : Nat} {p : Addr} {x y z : V} (e : σ[i]? = some (some (.ref p))) (h : SqT K H p [x, y, z]) (k : C D (((σ.set a (some x)).set b (some y)).set c (some z)) H) : tSeq (tAsg (tVar i) (gTup K 3 (gCons (gName a) (gCons (gName b) (gCons (gName c) gNil))))) C D σ H := ⟨_, e, ⟨p, _, rfl, h, rfl, ⟨_, _, rfl, _, _, rfl, _, _, rfl, rfl, k⟩⟩⟩
end
end
end Bk

namespace Bk
open PySem PySem.Spec PyProof.Rows L2
/-! ### max(xs, default=d) of a list of ints -/
theorem args_mxd (x d : Value) : argsOk "max" ⟨[x], [(Str.ofString "default", d)]⟩ := by unfold argsOk; kernel_rfl
section
variable {prog : Program} {w : World} {A : Around} {E : Value → Shared → Prop} {s : Shared}
theorem call_kwTree {id : String} {f : Builtin} {xs : List Value} {kw : List (Str × Value)} {Q : Value → Shared → Prop} (h1 : builtinKind id = none) (h2 : plainId id = true) (h3 : entryFor table id = some f) (h4 : argsOk id ⟨xs, kw⟩)
    (go : wpAny (model prog w) A.in1 (f ⟨xs, kw⟩) (fun z t => match z with
      | .done u => (match (Except.ok u : Result) with | .ok (.ret y) => Q y t | .ok _ => False | .error x => E x t)
      | .again c => c.quiet = true ∧ codeAny (model prog w) A c (fun u t => match u with | .ok (.ret y) => Q y t | .ok _ => False | .error x => E x t) t) E s) : wpAny (model prog w) A (call (.builtin id) xs kw) Q E s := by
  refine wpAny_call (codeAny_call_builtin h2 h3 ?_)
  simp only [checkBuiltinCall, h1]
  cases g : Manifest.signature? id with
  | none => exact wpAny_pure go
  | some sg =>
    have h5 : Bind.checkArgs id sg ⟨xs, kw⟩ = pure () := by simpa only [argsOk, g] using h4
    simp only [h5]
    exact wpAny_pure go
variable {R : Result → Shared → Prop} {J : Addr} {fp wr : List Addr} {n : Nat} {P : Nat → Value → Prop} {St : Nat → Heap → Prop} {kw : List (Str × Value)}
theorem mxd_go (W : Walks prog w A.in1 J fp wr n P St) (bt : Nat → Nat → Bool) (cmp : CmpOf prog w A.in1 .Gt P bt) (L : Addr) (nf : L ∉ fp) : ∀ (k j : Nat) (s : Shared) (vb : Value) (c : Nat), n - (j + 1) = k → j + 1 ≤ n → St (j + 1) s.heap → P (argBest bt j) vb →
    s.heap.get? L = some { cls := .type "list", dict := none, data := .seq #[vb, vb] c, slots := #[] } → (∀ y h' tk, P (argBest bt (n - 1)) y → (∀ b o, b ∉ wr → b ≠ L → s.heap.get? b = some o → h'.get? b = some o) → R (.ok (.ret y)) { s with heap := h', toks := tk }) →
    codeAny (model prog w) A (.builtin "max.loop" ⟨[.ref J, .none, .ref L], kw⟩) R s := by
  have nw : L ∉ wr := fun z => nf (W.sub _ z)
  have nm : (toString "max" ++ toString ".loop" : String) = "max.loop" := by decide
  intro k
  induction k with
  | zero =>
    intro j s vb c ek ej es eb eL go
    have en : j + 1 = n := by omega
    refine codeAny_builtin F.entry_max_loop ?_; rw [Around.under_plainId F.plain_max_loop _]
    show wpAny _ A.in1 (seqItems? (.ref L) >>= _) _ _ s; refine wpAny_bind (wpAny_seqItems eL rfl ?_)
    show wpAny _ A.in1 (tryCatch (pyNext (.ref J)) _ >>= _) _ _ s; refine wpAny_bind (wpAny_tryCatch (W.done s _ _ (en ▸ es) fun h' tk kp => ?_))
    have eL' := kp L _ nw eL
    show wpAny _ A.in1 (updateSeq L (fun _ => #[]) >>= _) _ _ _; refine wpAny_bind ?_
    refine wpAny_updateSeq eL' rfl (wpAny_bind (wpAny_letGo (wpAny_pure ?_))); refine go vb _ tk (by rw [← en]; exact eb) fun b o z1 z2 e => (Heap.get?_update_other _ _ (Ne.symm z2)).trans (kp b o z1 e)
  | succ k ih =>
    intro j s vb c ek ej es eb eL go
    have lt : j + 1 < n := by omega
    refine codeAny_builtin F.entry_max_loop ?_; rw [Around.under_plainId F.plain_max_loop _]
    show wpAny _ A.in1 (seqItems? (.ref L) >>= _) _ _ s; refine wpAny_bind (wpAny_seqItems eL rfl ?_)
    show wpAny _ A.in1 (tryCatch (pyNext (.ref J)) _ >>= _) _ _ s; refine wpAny_bind (wpAny_tryCatch (W.item (j + 1) s _ _ lt es fun y h' tk ep es' kp => ?_))
    have eL' := kp L _ nw eL
    show wpAny _ A.in1 (tryCatch (holding [y, y] (richCompare .Gt y vb >>= _)) _ >>= _) _ _ _; refine wpAny_bind (wpAny_tryCatch (wpAny_holding (wpAny_bind (cmp (j + 1) (argBest bt j) y vb _ _ _ ep eb ?_))))
    refine wpAny_bind (wpAny_holding (wpAny_truthy_bool ?_)); refine wpAny_bind (wpAny_letGo (wpAny_pure ?_))
    cases yes : bt (j + 1) (argBest bt j) with
    | true =>
      simp only [if_true]; refine wpAny_bind ?_
      refine wpAny_updateSeq eL' rfl (wpAny_bind (wpAny_letGo ?_)); rw [nm]
      refine wpAny_pure ⟨plainId_quiet F.plain_max_loop _, ih (j + 1) _ y _ (by omega) lt (W.frame _ _ _ es' fun b zb o e => (Heap.get?_update_other _ _ (fun z : L = b => nf (by rw [z]; exact zb))).trans e) (by simp only [argBest, yes, if_true]; exact ep) (Heap.get?_update_self _ eL' rfl) fun y' h2 tk2 ep2 kp2 => ?_⟩
      exact go y' h2 tk2 ep2 fun b o z1 z2 e => kp2 b o z1 z2 ((Heap.get?_update_other _ _ (Ne.symm z2)).trans (kp b o z1 e))
    | false =>
      simp only [Bool.false_eq_true, if_false]; refine wpAny_bind (wpAny_letGo ?_); rw [nm]
      refine wpAny_pure ⟨plainId_quiet F.plain_max_loop _, ih (j + 1) _ vb c (by omega) lt es' (by simp only [argBest, yes, Bool.false_eq_true, if_false]; exact eb) eL' fun y' h2 tk2 ep2 kp2 => ?_⟩
      exact go y' h2 tk2 ep2 fun b o z1 z2 e => kp2 b o z1 z2 (kp b o z1 e)
theorem mxd_first (W : Walks prog w A.in1 J fp wr n P St) (bt : Nat → Nat → Bool) (cmp : CmpOf prog w A.in1 .Gt P bt) (L : Addr) (nf : L ∉ fp) (hn : 0 < n) {s : Shared} {c : Nat} (es : St 0 s.heap) (eL : s.heap.get? L = some { cls := .type "list", dict := none, data := .seq #[] c, slots := #[] })
    (go : ∀ y h' tk, P (argBest bt (n - 1)) y → (∀ b o, b ∉ wr → b ≠ L → s.heap.get? b = some o → h'.get? b = some o) → R (.ok (.ret y)) { s with heap := h', toks := tk }) : codeAny (model prog w) A (.builtin "max.loop" ⟨[.ref J, .none, .ref L], kw⟩) R s := by
  have nw : L ∉ wr := fun z => nf (W.sub _ z)
  have nm : (toString "max" ++ toString ".loop" : String) = "max.loop" := by decide
  refine codeAny_builtin F.entry_max_loop ?_; rw [Around.under_plainId F.plain_max_loop _]
  show wpAny _ A.in1 (seqItems? (.ref L) >>= _) _ _ s; refine wpAny_bind (wpAny_seqItems eL rfl ?_)
  show wpAny _ A.in1 (tryCatch (pyNext (.ref J)) _ >>= _) _ _ s; refine wpAny_bind (wpAny_tryCatch (W.item 0 s _ _ hn es fun y h' tk ep es' kp => ?_))
  have eL' := kp L _ nw eL
  show wpAny _ A.in1 (updateSeq L (fun _ => #[y, y]) >>= _) _ _ _; refine wpAny_bind ?_
  refine wpAny_updateSeq eL' rfl ?_; rw [nm]
  refine wpAny_pure ⟨plainId_quiet F.plain_max_loop _, mxd_go W bt cmp L nf _ 0 _ y _ rfl hn (W.frame _ _ _ es' fun b zb o e => (Heap.get?_update_other _ _ (fun z : L = b => nf (by rw [z]; exact zb))).trans e) ep (Heap.get?_update_self _ eL' rfl) fun y' h2 tk2 ep2 kp2 => ?_⟩
  exact go y' h2 tk2 ep2 fun b o z1 z2 e => kp2 b o z1 z2 ((Heap.get?_update_other _ _ (Ne.symm z2)).trans (kp b o z1 e))
theorem mxd_none {d : Value} (W : Walks prog w A.in1 J fp wr 0 P St) (L : Addr) (nf : L ∉ fp) {s : Shared} {c : Nat} (es : St 0 s.heap) (eL : s.heap.get? L = some { cls := .type "list", dict := none, data := .seq #[] c, slots := #[] })
    (go : ∀ h' tk, (∀ b o, b ∉ wr → s.heap.get? b = some o → h'.get? b = some o) → R (.ok (.ret d)) { s with heap := h', toks := tk }) : codeAny (model prog w) A (.builtin "max.loop" ⟨[.ref J, .none, .ref L], [(Str.ofString "default", d)]⟩) R s := by
  refine codeAny_builtin F.entry_max_loop ?_; rw [Around.under_plainId F.plain_max_loop _]
  show wpAny _ A.in1 (seqItems? (.ref L) >>= _) _ _ s; refine wpAny_bind (wpAny_seqItems eL rfl ?_)
  show wpAny _ A.in1 (tryCatch (pyNext (.ref J)) _ >>= _) _ _ s; refine wpAny_bind (wpAny_tryCatch (W.done s _ _ es fun h' tk kp => ?_))
  show wpAny _ A.in1 (rule _ >>= _) _ _ _
  exact wpAny_bind (wpAny_rule (wpAny_pure (go h' tk kp)))
theorem mxd_ints {l : Addr} {xs : Array (Int × Tok)} {d : Value} {Q : Value → Shared → Prop} (hh : A.handled = none) (hl : s.heap.IsList l (intItems xs))
    (h0 : xs.size = 0 → ∀ h' tk, (∀ b o, s.heap.get? b = some o → h'.get? b = some o) → Q d { s with heap := h', toks := tk })
    (h1 : 0 < xs.size → ∀ v h' tk, (intItems xs)[argBest (fun i j => decide (numAt xs i > numAt xs j)) (xs.size - 1)]? = some v → (∀ b o, s.heap.get? b = some o → h'.get? b = some o) → Q v { s with heap := h', toks := tk }) :
    wpAny (model prog w) A (call (.builtin "max") [.ref l] [(Str.ofString "default", d)]) Q E s := by
  have nm : (toString "max" ++ toString ".loop" : String) = "max.loop" := by decide
  refine call_kwTree F.kind_max F.plain_max F.entry_max (args_mxd _ _) ?_
  show wpAny _ A.in1 (Builtin.Builtins.bindParams "max" ["key", "default"] 0 ⟨[], [(Str.ofString "default", d)]⟩ >>= _) _ _ s
  refine wpAny_bind (wpAny_of_eq (show Builtin.Builtins.bindParams "max" ["key", "default"] 0 ⟨[], [(Str.ofString "default", d)]⟩ = pure [none, some d] from rfl) ?_)
  refine wpAny_bind (wpAny_pure ?_)
  refine wpAny_bind (iter_intList hl fun s2 e st hfp hlI => ?_)
  subst e
  refine wpAny_bind (wpAny_newObj_type ?_)
  have nf : (s.heap.push { cls := .type "list_iterator", data := .fields #[.ref l, .int 0 0] }).objs.size ∉ [s.heap.objs.size, l] := fun hm => Nat.lt_irrefl _ (hfp _ hm)
  have W := Walks.list (prog := prog) (w := w) (A := A.in1) hh _ l hlI (intItems xs)
  rw [nm]
  by_cases hz : xs.size = 0
  · have hz' : (intItems xs).size = 0 := by simpa [intItems] using hz
    rw [hz'] at W
    refine wpAny_pure ⟨plainId_quiet F.plain_max_loop _, mxd_none W _ nf (W.frame _ _ _ st fun b _ o e => Heap.get?_push_of_some _ e) (Heap.get?_push_size _ rfl) fun h' tk kp => ?_⟩
    exact h0 hz h' tk (old_kept fun b o zb e => kp b o zb (Heap.get?_push_of_some _ e))
  · have hp : 0 < xs.size := Nat.pos_of_ne_zero hz
    refine wpAny_pure ⟨plainId_quiet F.plain_max_loop _, mxd_first W _ (CmpOf.ints_gt (numAt xs) (fun _ _ => intItems_at)) _ nf (by simpa [intItems] using hp) (W.frame _ _ _ st fun b _ o e => Heap.get?_push_of_some _ e) (Heap.get?_push_size _ rfl) fun v h' tk ep kp => ?_⟩
    exact h1 hp v h' tk (by simpa [intItems] using ep) (old_kept fun b o zb e => kp b o zb (Nat.ne_of_lt (Heap.lt_size e)) (Heap.get?_push_of_some _ e))
end
def rMaxD (K : PySem.W.Frag) : List V → List V → Hp → VK → Prop := fun vs zs H Q => ∃ (a : Addr) (ns : List Int) (d : Int), vs = [V.ref a] ∧ zs = [V.int d] ∧ SqL K H a (ns.map V.int) ∧ (ns = [] → Q (.int d) H) ∧ ∀ m, m ∈ ns → (∀ y, y ∈ ns → y ≤ m) → Q (.int m) H
theorem cr_maxDef {X : Cx} (hc : X.calm = true) : CallRK X (.builtin "max") [Str.ofString "default"] (rMaxD X.K) := by
  intro pins s σ H vs zs us ws Q I r rz h
  obtain ⟨a, ns, d, rfl, rfl, hs, q0, q1⟩ := h
  obtain rfl := Vals.ref1 r
  obtain ⟨its, rv, hl, hz⟩ := I.list hs
  have hi := rv.ints
  cases rz with
  | cons rd rr =>
  cases rr
  obtain ⟨t, rfl⟩ := rd
  have hl := hl.isList
  obtain ⟨xs, e⟩ := hi.allInts.items
  have hn : numsOf (intItems xs).toList = ns := by rw [← e]; exact hi.numsOf
  rw [nums_intItems] at hn
  subst hn
  rw [e] at hl
  refine mxd_ints (I.ok.hd hc) hl (fun h0 h' tk hk => ⟨.int d, H, I.kept hk, ⟨_, rfl⟩, q0 ?_⟩) (fun h0 v h' tk hv hk => ?_)
  · have : xs = #[] := Array.eq_empty_of_size_eq_zero h0
    subst this
    rfl
  · obtain ⟨t, rfl⟩ := intItems_at hv
    obtain ⟨g1, g2⟩ := argBest_gt (numAt xs) (xs.size - 1)
    refine ⟨.int _, H, I.kept hk, ⟨_, rfl⟩, q1 _ ?_ fun y hy => ?_⟩
    · rw [numAt_eq]
      exact PySem.getD_mem (by rw [List.length_map, Array.length_toList]; omega)
    · obtain ⟨j, hj, rfl⟩ := mem_getD hy
      rw [List.length_map, Array.length_toList] at hj
      rw [← numAt_eq]
      exact g2 j (by omega)
theorem rMaxD_r {K : PySem.W.Frag} {a : Addr} {d : Int} {H : Hp} {Q : VK} : rMaxD K [.ref a] [.int d] H Q = ∃ ns : List Int, SqL K H a (ns.map V.int) ∧ (ns = [] → Q (.int d) H) ∧ ∀ m, m ∈ ns → (∀ y, y ∈ ns → y ≤ m) → Q (.int m) H :=
  propext ⟨fun ⟨_, ns, _, e1, e2, h⟩ => by cases e1; cases e2; exact ⟨ns, h⟩, fun ⟨ns, h⟩ => ⟨a, ns, d, rfl, rfl, h⟩⟩
theorem rSortedI_r {K : PySem.W.Frag} {a : Addr} {H : Hp} {Q : VK} : rSortedI K [.ref a] H Q = ∃ ns : List Int, SqL K H a (ns.map V.int) ∧ ∀ (ns' : List Int) (p : Addr), ns'.Perm ns → ns'.Pairwise (· ≤ ·) → H p = none → Q (.ref p) (upd H p (.lst (ns'.map V.int))) :=
  propext ⟨fun ⟨_, ns, e, h⟩ => by cases e; exact ⟨ns, h⟩, fun ⟨ns, h⟩ => ⟨a, ns, rfl, h⟩⟩
end Bk

namespace Bk
open PySem PySem.Spec PyProof.Rows L2 RZ
/-! ### len and zip of lists or tuples -/
def rLnS (K : PySem.W.Frag) : List V → Hp → VK → Prop := fun xs H Q => ∃ p ys, xs = [.ref p] ∧ (SqL K H p ys ∨ SqT K H p ys) ∧ Q (.int ys.length) H
theorem call_lnS {X : Cx} : CallR X (.builtin "len") (rLnS X.K) := call_len_seq
theorem rLnS_r {K : PySem.W.Frag} {p : Addr} {H : Hp} {Q : VK} : rLnS K [.ref p] H Q = ∃ ys, (SqL K H p ys ∨ SqT K H p ys) ∧ Q (.int ys.length) H := propext ⟨fun ⟨a, ys, e, h⟩ => by cases e; exact ⟨ys, h⟩, fun ⟨ys, h⟩ => ⟨p, ys, rfl, h⟩⟩
def rZipA (K : PySem.W.Frag) (vs : List V) (H1 : Hp) (R : It → Hp → Prop) : Prop := ∃ a b xs ys, vs = [.ref a, .ref b] ∧ ((SqL K H1 a xs ∧ SqL K H1 b ys ∧ R (Itz K a b) H1) ∨ (SqT K H1 a xs ∧ SqT K H1 b ys ∧ R (ItzT K a b) H1))
theorem iZipA_eq {K : PySem.W.Frag} {ta : TA} {σ : L2.St} {H : Hp} {R : It → Hp → Prop} : iZipA K ta σ H R = ta σ H fun vs H1 => rZipA K vs H1 R := rfl
theorem rZipA_r {K : PySem.W.Frag} {a b : Addr} {H : Hp} {R : It → Hp → Prop} : rZipA K [.ref a, .ref b] H R = ∃ xs ys, (SqL K H a xs ∧ SqL K H b ys ∧ R (Itz K a b) H) ∨ (SqT K H a xs ∧ SqT K H b ys ∧ R (ItzT K a b) H) := propext ⟨fun ⟨_, _, xs, ys, e, h⟩ => by cases e; exact ⟨xs, ys, h⟩, fun ⟨xs, ys, h⟩ => ⟨a, b, xs, ys, rfl, h⟩⟩
theorem walk_zipT {K : PySem.W.Frag} {a b : Addr} {xs ys : List V} {n : Nat} (hn : n = min xs.length ys.length) : Walk (ItzT K a b) n (fun H => SqT K H a xs ∧ SqT K H b ys) (YPair (fun i => xs[i]?) (fun i => ys[i]?)) := by
  subst hn
  refine ⟨fun i _ hi q => ?_, fun _ q => ⟨xs, ys, q.1, q.2, by omega⟩, fun i H v H' _ q y => ?_⟩
  · have g1 : i < xs.length := by omega
    have g2 : i < ys.length := by omega
    exact ⟨xs, ys, xs[i], ys[i], q.1, q.2, by simp [g1], by simp [g2]⟩
  · obtain ⟨T, x, z, g1, g2, g3, g4, g5⟩ := y
    exact ⟨T, x, z, g1, g2, g3, g4 xs q.1, g5 ys q.2⟩
/-! ### data that is alike: so deep, no dicts -/
def sameOk : Nat → PyData → Bool
  | _, .none => true
  | _, .bool _ => true
  | _, .int _ => true
  | _, .str _ => true
  | 0, .list _ => false
  | 0, .tuple _ => false
  | k + 1, .list ds => decide (ds.length ≤ 1000) && ds.all (sameOk k)
  | k + 1, .tuple ds => decide (ds.length ≤ 1000) && ds.all (sameOk k)
  | _, .dict _ => false
theorem sameOk_opt (k : Nat) (o : Option Int) : sameOk k (optD o) = true := by cases k <;> cases o <;> rfl
theorem sameOk_int (k : Nat) (i : Int) : sameOk k (.int i) = true := by cases k <;> rfl
theorem sameOk_opts (k : Nat) (os : List (Option Int)) (h : os.length ≤ 1000) : sameOk (k + 1) (.list (os.map optD)) = true := by
  unfold sameOk
  rw [Bool.and_eq_true, decide_eq_true_eq, List.length_map, List.all_eq_true]
  refine ⟨h, fun d hd => ?_⟩
  obtain ⟨o, _, rfl⟩ := List.mem_map.mp hd
  exact sameOk_opt k o
theorem sameOk_ints (k : Nat) (ns : List Int) (h : ns.length ≤ 1000) : sameOk (k + 1) (.list (ns.map PyData.int)) = true := by
  unfold sameOk
  rw [Bool.and_eq_true, decide_eq_true_eq, List.length_map, List.all_eq_true]
  refine ⟨h, fun d hd => ?_⟩
  obtain ⟨o, _, rfl⟩ := List.mem_map.mp hd
  exact sameOk_int k o
theorem thAll_opts {K : PySem.W.Frag} {H : Hp} : ∀ l : List (Option Int), ThAll K H (l.map optV) (l.map optD)
  | [] => .nil
  | o :: r => .cons (Th.optV o) (thAll_opts r)
end Bk

namespace Bk
open PySem PySem.Spec PyProof.Rows L2
/-! ### chains of last lit days -/
def Down (os : List (Option Nat)) : Prop := ∀ (j d : Nat), os[j]? = some (some d) → d < j
def chainN (os : List (Option Nat)) : Nat → Nat → List Nat
  | 0, j => [j]
  | f + 1, j => j :: (match os[j]? with | some (some d) => chainN os f d | _ => [])
def chain (os : List (Option Nat)) (j : Nat) : List Nat := chainN os j j
section
variable {os : List (Option Nat)}
theorem chainN_zero (h : Down os) (f : Nat) : chainN os f 0 = [0] := by
  cases f with
  | zero => rfl
  | succ f =>
    unfold chainN
    split
    · rename_i d e
      have := h 0 d e
      omega
    · rfl
theorem chainN_fuel (h : Down os) : ∀ f g j, j ≤ f → j ≤ g → chainN os f j = chainN os g j
  | 0, g, j, h1, _ => by
    have : j = 0 := by omega
    subst this
    rw [chainN_zero h, chainN_zero h]
  | f + 1, 0, j, _, h2 => by
    have : j = 0 := by omega
    subst this
    rw [chainN_zero h, chainN_zero h]
  | f + 1, g + 1, j, h1, h2 => by
    unfold chainN
    split
    · rename_i d e
      have := h j d e
      rw [chainN_fuel h f g d (by omega) (by omega)]
    · rfl
theorem chain_some (h : Down os) {j d : Nat} (e : os[j]? = some (some d)) : chain os j = j :: chain os d := by
  have hd := h j d e
  unfold chain
  cases j with
  | zero => omega
  | succ j =>
    conv => lhs; unfold chainN
    rw [e]
    simp only
    rw [chainN_fuel h j d d (by omega) (Nat.le_refl _)]
theorem chain_none {j : Nat} (e : ∀ d, os[j]? ≠ some (some d)) : chain os j = [j] := by
  unfold chain
  cases j with
  | zero => rfl
  | succ j =>
    unfold chainN
    split
    · rename_i d z
      exact absurd z (e d)
    · rfl
theorem chain_cases (h : Down os) (j : Nat) : (∃ d, os[j]? = some (some d) ∧ d < j ∧ chain os j = j :: chain os d) ∨ ((∀ d, os[j]? ≠ some (some d)) ∧ chain os j = [j]) := by
  by_cases e : ∃ d, os[j]? = some (some d)
  · obtain ⟨d, e⟩ := e
    exact .inl ⟨d, e, h j d e, chain_some h e⟩
  · exact .inr ⟨fun d z => e ⟨d, z⟩, chain_none fun d z => e ⟨d, z⟩⟩
theorem chain_le (h : Down os) : ∀ (n j : Nat), j ≤ n → ∀ m ∈ chain os j, m ≤ j := by
  intro n
  induction n with
  | zero =>
    intro j hj m hm
    have : j = 0 := by omega
    subst this
    rw [show chain os 0 = [0] from rfl] at hm
    rw [List.mem_singleton.mp hm]
    exact Nat.le_refl _
  | succ n ih =>
    intro j hj m hm
    rcases chain_cases h j with ⟨d, e, hd, ec⟩ | ⟨_, ec⟩
    · rw [ec] at hm
      rcases List.mem_cons.mp hm with z | z
      · omega
      · have := ih d (by omega) m z
        omega
    · rw [ec] at hm
      rw [List.mem_singleton.mp hm]
      exact Nat.le_refl _
theorem chain_self (j : Nat) : j ∈ chain os j := by
  unfold chain
  cases j with
  | zero => exact List.mem_singleton.mpr rfl
  | succ j => unfold chainN; exact List.mem_cons_self
theorem chain_suffix (h : Down os) : ∀ (n j m : Nat), j ≤ n → m ∈ chain os j → ∃ pre, chain os j = pre ++ chain os m := by
  intro n
  induction n with
  | zero =>
    intro j m hj hm
    have : j = 0 := by omega
    subst this
    rw [show chain os 0 = [0] from rfl] at hm
    rw [List.mem_singleton.mp hm]
    exact ⟨[], rfl⟩
  | succ n ih =>
    intro j m hj hm
    rcases chain_cases h j with ⟨d, e, hd, ec⟩ | ⟨_, ec⟩
    · rw [ec] at hm
      rcases List.mem_cons.mp hm with z | z
      · rw [z]
        exact ⟨[], rfl⟩
      · obtain ⟨pre, ep⟩ := ih d m (by omega) z
        exact ⟨j :: pre, by rw [ec, ep]; rfl⟩
    · rw [ec] at hm
      rw [List.mem_singleton.mp hm]
      exact ⟨[], rfl⟩
theorem chain_desc (h : Down os) : ∀ (n j : Nat), j ≤ n → (chain os j).Pairwise (· > ·) := by
  intro n
  induction n with
  | zero =>
    intro j hj
    have : j = 0 := by omega
    subst this
    exact List.pairwise_singleton _ _
  | succ n ih =>
    intro j hj
    rcases chain_cases h j with ⟨d, e, hd, ec⟩ | ⟨_, ec⟩
    · rw [ec]
      refine List.Pairwise.cons (fun m hm => ?_) (ih d (by omega))
      have := chain_le h d d (Nat.le_refl _) m hm
      show m < j
      omega
    · rw [ec]
      exact List.pairwise_singleton _ _
theorem chain_both (h : Down os) {j m m' : Nat} (hm : m ∈ chain os j) (hm' : m' ∈ chain os j) (hle : m ≤ m') : m ∈ chain os m' := by
  obtain ⟨pre, ep⟩ := chain_suffix h j j m' (Nat.le_refl _) hm'
  have hd := chain_desc h j j (Nat.le_refl _)
  rw [ep] at hm hd
  rcases List.mem_append.mp hm with z | z
  · have := (List.pairwise_append.mp hd).2.2 m z m' (chain_self m')
    omega
  · exact z
theorem chain_trans (h : Down os) {j m k : Nat} (hm : m ∈ chain os j) (hk : k ∈ chain os m) : k ∈ chain os j := by
  obtain ⟨pre, ep⟩ := chain_suffix h j j m (Nat.le_refl _) hm
  rw [ep]
  exact List.mem_append_right _ hk
/-- in the chains of all numbers from the last lit day on -/
def SharedM (os : List (Option Nat)) (n m : Nat) : Prop := ∃ l, os[n]? = some (some l) ∧ ∀ k, l ≤ k → k < n → m ∈ chain os k
structure IsMany (os : List (Option Nat)) (n m : Nat) : Prop where
  most : ∀ m', SharedM os n m' → m' ≤ m
  at_ : m = 0 ∨ SharedM os n m
theorem IsMany.uniq {n m m' : Nat} (h : IsMany os n m) (h' : IsMany os n m') : m = m' := by
  rcases h.at_ with e | e <;> rcases h'.at_ with e' | e'
  · omega
  · have := h.most m' e'
    omega
  · have := h'.most m e
    omega
  · have := h.most m' e'
    have := h'.most m e
    omega
theorem isMany_none {n : Nat} (e : os[n]? = some none) : IsMany os n 0 := ⟨fun m' ⟨l, z, _⟩ => absurd (e.symm.trans z) (by simp), .inl rfl⟩
def litOf (os : List (Option Nat)) (m : Nat) : List Nat := (chain os m).tail.reverse
theorem chain_head (j : Nat) : chain os j = j :: (chain os j).tail := by
  unfold chain
  cases j with
  | zero => rfl
  | succ j => unfold chainN; rfl
theorem litOf_rise (h : Down os) (m : Nat) : (litOf os m).Pairwise (· < ·) := by
  unfold litOf
  rw [List.pairwise_reverse]
  have := chain_desc h m m (Nat.le_refl _)
  rw [chain_head] at this
  exact (List.pairwise_cons.mp this).2
/-- what the first numbers' chains are -/
theorem chain_take (h : Down os) {n : Nat} : ∀ (f j : Nat), j ≤ n → chainN (os.take (n + 1)) f j = chainN os f j
  | 0, _, _ => rfl
  | f + 1, j, hj => by
    unfold chainN
    rw [List.getElem?_take_of_lt (by omega)]
    split
    · rename_i d e
      have := h j d e
      rw [chain_take h f d (by omega)]
    · rfl
theorem shared_take (h : Down os) {n m : Nat} : SharedM (os.take (n + 1)) n m ↔ SharedM os n m := by
  unfold SharedM
  rw [List.getElem?_take_of_lt (by omega)]
  have e : ∀ k, k < n → chain (os.take (n + 1)) k = chain os k := fun k hk => chain_take h k k (by omega)
  constructor
  · rintro ⟨l, h1, h2⟩
    exact ⟨l, h1, fun k a b => by rw [← e k b]; exact h2 k a b⟩
  · rintro ⟨l, h1, h2⟩
    exact ⟨l, h1, fun k a b => by rw [e k b]; exact h2 k a b⟩
theorem isMany_take (h : Down os) {n m : Nat} : IsMany (os.take (n + 1)) n m ↔ IsMany os n m :=
  ⟨fun z => ⟨fun m' s => z.most m' ((shared_take h).mpr s), z.at_.imp_right fun s => (shared_take h).mp s⟩, fun z => ⟨fun m' s => z.most m' ((shared_take h).mp s), z.at_.imp_right fun s => (shared_take h).mpr s⟩⟩
theorem down_take (h : Down os) (n : Nat) : Down (os.take n) := fun j d e => by
  by_cases hj : j < n
  · rw [List.getElem?_take_of_lt hj] at e
    exact h j d e
  · rw [List.getElem?_eq_none (by rw [List.length_take]; omega)] at e
    cases e
/-- a day more: what is settled stays settled -/
theorem shared_more (h : Down os) {n m l l' : Nat} (e : os[n]? = some (some l)) (e' : os[n + 1]? = some (some l')) (hl : l ≤ l') (hs : SharedM os n m) : SharedM os (n + 1) m := by
  obtain ⟨l2, e2, hk⟩ := hs
  rw [e] at e2
  cases e2
  refine ⟨l', e', fun k h1 h2 => ?_⟩
  by_cases hkn : k = n
  · subst hkn
    rw [chain_some h e]
    exact List.mem_cons_of_mem _ (hk l (Nat.le_refl _) (h k l e))
  · exact hk k (by omega) (by omega)
theorem lit_prefix (h : Down os) {m m' : Nat} (hm : m ∈ chain os m') : ∃ r, litOf os m' = litOf os m ++ r := by
  obtain ⟨pre, ep⟩ := chain_suffix h m' m' m (Nat.le_refl _) hm
  unfold litOf
  rw [ep]
  cases pre with
  | nil => exact ⟨[], by rw [List.nil_append, List.append_nil]⟩
  | cons x r =>
    rw [List.cons_append, List.tail_cons, List.reverse_append]
    rw [chain_head m, List.reverse_cons, List.tail_cons, List.append_assoc]
    exact ⟨_, rfl⟩
theorem many_more (h : Down os) {n m m' l l' : Nat} (e : os[n]? = some (some l)) (e' : os[n + 1]? = some (some l')) (hl : l ≤ l') (h1 : IsMany os n m) (h2 : IsMany os (n + 1) m') : m ≤ m' ∧ ∃ r, litOf os m' = litOf os m ++ r := by
  rcases h1.at_ with z | hs
  · subst z
    exact ⟨Nat.zero_le _, _, rfl⟩
  · have hs' := shared_more h e e' hl hs
    have hle := h2.most m hs'
    refine ⟨hle, ?_⟩
    rcases h2.at_ with z | hs2
    · have : m = m' := by omega
      subst this
      exact ⟨[], by rw [List.append_nil]⟩
    · obtain ⟨l3, e3, k3⟩ := hs'
      obtain ⟨l4, e4, k4⟩ := hs2
      rw [e'] at e3 e4
      cases e3
      cases e4
      exact lit_prefix h (chain_both h (k3 l' (Nat.le_refl _) (h _ _ e')) (k4 l' (Nat.le_refl _) (h _ _ e')) hle)
theorem chain_len (h : Down os) : ∀ j, (chain os j).length ≤ j + 1 := by
  suffices ∀ n j, j ≤ n → (chain os j).length ≤ j + 1 from fun j => this j j (Nat.le_refl _)
  intro n
  induction n with
  | zero =>
    intro j hj
    have : j = 0 := by omega
    subst this
    exact Nat.le_refl _
  | succ n ih =>
    intro j hj
    rcases chain_cases h j with ⟨d, e, hd, ec⟩ | ⟨_, ec⟩
    · rw [ec, List.length_cons]
      have := ih d (by omega)
      omega
    · rw [ec]
      show 1 ≤ j + 1
      omega
theorem chain_lt (h : Down os) {j m : Nat} (hj : j < os.length) (hm : m ∈ chain os j) : m < os.length := by
  have := chain_le h j j (Nat.le_refl _) m hm
  omega
end
theorem Lasts.down {g : Good} {ls : List Int} {os : List (Option Nat)} (h : Lasts g ls os) : Down os := fun j d e => by
  obtain ⟨row, h1, h2⟩ := h.row
  exact (h2 j _ e).1.1
def natI (n : Nat) : V := .int (n : Int)
theorem natI_map (l : List Nat) : l.map natI = (l.map fun (n : Nat) => (n : Int)).map V.int := by rw [List.map_map]; rfl
end Bk

namespace Bk
open PySem PySem.Spec PyProof.Rows L2
/-! ### dict(pairs), walks over a dict that is locked -/
def rDictP (K : PySem.W.Frag) : List V → Hp → VK → Prop := fun xs H Q => ∃ (a : Addr) (ps : List Addr) (kvs : List (Key × V)), xs = [.ref a] ∧ SqL K H a (ps.map V.ref) ∧ Paired (fun p kv => SqT K H p [kV kv.1, kv.2]) ps kvs ∧ ∀ p, H p = none → Q (.ref p) (upd H p (.dK (mergeK [] kvs)))
theorem call_dictPn {X : Cx} (hc : X.calm = true) : CallR X (.type "dict") (rDictP X.K) := call_dictP hc
theorem rDictP_r {K : PySem.W.Frag} {a : Addr} {H : Hp} {Q : VK} : rDictP K [.ref a] H Q = ∃ (ps : List Addr) (kvs : List (Key × V)), SqL K H a (ps.map V.ref) ∧ Paired (fun p kv => SqT K H p [kV kv.1, kv.2]) ps kvs ∧ ∀ p, H p = none → Q (.ref p) (upd H p (.dK (mergeK [] kvs))) :=
  propext ⟨fun ⟨_, ps, kvs, e, h⟩ => by cases e; exact ⟨ps, kvs, h⟩, fun ⟨ps, kvs, h⟩ => ⟨a, ps, kvs, rfl, h⟩⟩
theorem lock_same {H H' : Hp} {d : Addr} {u : HO} {od : Obj} (hd : H d = some u) (s : Same (upd H d (.frz od u)) H') : Same H (upd H' d u) := fun b o e => by
  by_cases z : b = d
  · subst z
    rw [upd_same, ← e, hd]
  · rw [upd_ne z]
    refine s b o ?_
    rw [upd_ne z]
    exact e
/-- a dict whose keys are just these days -/
structure DictN (H : Hp) (p : Addr) (ns : List Nat) : Prop where
  ex : ∃ kvs : List (Key × V), H p = some (.dK kvs) ∧ kvs.map (·.1) = keyN ns
theorem DictN.same {H H' : Hp} {p : Addr} {ns : List Nat} (h : DictN H p ns) (s : Same H H') : DictN H' p ns := by
  obtain ⟨kvs, e, k⟩ := h.ex
  exact ⟨kvs, s _ _ e, k⟩
theorem addN_le (ns : List Nat) (n : Nat) : (addN ns n).length ≤ ns.length + 1 := by
  unfold addN
  split
  · omega
  · rw [List.length_append, List.length_singleton]
    omega
theorem mergeK_keys : ∀ (more : List (Key × V)) (kvs : List (Key × V)) (ns ms : List Nat), kvs.map (·.1) = keyN ns → more.map (·.1) = keyN ms → ∃ rs, (mergeK kvs more).map (·.1) = keyN rs ∧ rs.length ≤ ns.length + ms.length ∧ ∀ m, m ∈ rs ↔ m ∈ ns ∨ m ∈ ms
  | [], kvs, ns, ms, h1, h2 => by
    cases ms with
    | nil => exact ⟨ns, h1, Nat.le_refl _, fun m => ⟨.inl, fun z => z.elim id fun y => (by cases y)⟩⟩
    | cons x r => cases h2
  | kv :: more, kvs, ns, ms, h1, h2 => by
    cases ms with
    | nil => cases h2
    | cons x r =>
      have e1 : kv.1 = Sum.inl ((x : Nat) : Int) := (List.cons.inj h2).1
      have e2 : more.map (·.1) = keyN r := (List.cons.inj h2).2
      obtain ⟨rs, h3, h5, h4⟩ := mergeK_keys more (putK kvs kv.1 kv.2) (addN ns x) r (by rw [e1]; exact keyN_put h1) e2
      have h6 := addN_le ns x
      refine ⟨rs, h3, by rw [List.length_cons]; omega, fun m => ?_⟩
      rw [h4, addN_mem, List.mem_cons, or_assoc]
theorem valV_some {kvs : List (Key × V)} {ns : List Nat} {n : Nat} (h : kvs.map (·.1) = keyN ns) : (valV kvs (Sum.inl (n : Int))).isSome = decide (n ∈ ns) := by
  apply Bool.eq_iff_iff.mpr
  rw [decide_eq_true_iff, ← keyN_mem, ← h]
  unfold valV
  rw [Option.isSome_map, List.find?_isSome, List.mem_map]
  constructor
  · rintro ⟨kv, h1, h2⟩
    exact ⟨kv, h1, of_decide_eq_true h2⟩
  · rintro ⟨kv, h1, h2⟩
    exact ⟨kv, h1, decide_eq_true h2⟩
theorem keyN_at {kvs : List (Key × V)} {ns : List Nat} {i : Nat} {k : Key} {v : V} (h : kvs.map (·.1) = keyN ns) (e : kvs[i]? = some (k, v)) : ∃ n, ns[i]? = some n ∧ k = Sum.inl (n : Int) := by
  have h1 : (kvs.map (·.1))[i]? = some k := by rw [List.getElem?_map, e]; rfl
  rw [h] at h1
  unfold keyN at h1
  rw [List.getElem?_map] at h1
  cases hn : ns[i]? with
  | none => rw [hn] at h1; cases h1
  | some n =>
    rw [hn] at h1
    exact ⟨n, rfl, (Option.some.inj h1).symm⟩
theorem keyN_len {kvs : List (Key × V)} {ns : List Nat} (h : kvs.map (·.1) = keyN ns) : kvs.length = ns.length := by
  have := congrArg List.length h
  unfold keyN at this
  rw [List.length_map, List.length_map] at this
  exact this
end Bk

namespace Bk
open PySem PySem.Spec PyProof.Rows L2
/-! ### an error that was caught, and is kept behind the suite -/
def ExK (cls : Value) (d : Option Addr) (a : Addr) : HO := .ext fun h => ∃ (oe : Obj) (vs : Array Value), h.get? a = some oe ∧ Zc cls d oe ∧ oe.data = .fields vs
theorem exK_ok {P : Program} {w : World} {H : Hp} {h : Heap} {a : Addr} {cls : Value} {d : Option Addr} {oe : Obj} {vs : Array Value} (e : h.get? a = some oe) (z : Zc cls d oe) (hd : oe.data = .fields vs) : ObjOk P w H h a (ExK cls d a) :=
  ⟨⟨oe, vs, e, z, hd⟩, ⟨oe, e⟩, fun _ _ ⟨o, v, q, r⟩ k => ⟨o, v, k o q, r⟩⟩
section
variable {X : Cx} {pins : List (Addr × Obj)} {σ : L2.St} {H : Hp} {s : Shared}
theorem track {a : Addr} {cls : Value} {d : Option Addr} {oe : Obj} {vs : Array Value} (I : Inv X pins σ H s) (ha : s.heap.get? a = some oe) (hz : Zc cls d oe) (hd : oe.data = .fields vs) (na : H a = none) (nL : a ≠ X.env.locals)
    (n0 : ∀ o, X.s_0.heap.get? a = some o → a ∈ X.ex) (np : ∀ p ∈ X.pn ++ pins, p.1 ≠ a) : Inv X pins σ (upd H a (ExK cls d a)) s := by
  have ne : ∀ {b : Addr} {u : HO}, H b = some u → b ≠ a := fun e z => by rw [z, na] at e; cases e
  refine ⟨I.ok, I.os, I.bare, ⟨I.base.keep, I.base.slot, fun b o e n hx => ?_, I.base.there, fun b xs e => ?_, fun b o u e => ?_, fun b ps e => ?_⟩, I.loc, I.cell, ?_, fun x c e => ?_, fun p hp => ?_, fun b u e => ?_, I.len⟩
  · rw [upd_ne (fun z => hx (by rw [z] at e ⊢; exact n0 o e))]
    exact I.base.free b o e n hx
  · have := I.base.tups b xs e
    rw [upd_ne (ne this)]
    exact this
  · have := I.base.frzs b o u e
    rw [upd_ne (ne this)]
    exact this
  · obtain ⟨more, this⟩ := I.base.tbls b ps e
    exact ⟨more, by rw [upd_ne (ne this)]; exact this⟩
  · rw [upd_ne (Ne.symm nL)]
    exact I.free
  · have hca : c ≠ a := fun z => by
      obtain ⟨v, o, h1, h2⟩ := I.cell x c e
      rw [z, ha] at h1
      cases h1
      rw [hd] at h2
      cases h2
    rw [upd_ne hca]
    exact I.freeC x c e
  · have := I.pin p hp
    exact ⟨this.1, by rw [upd_ne (np p hp)]; exact this.2.1, this.2.2⟩
  · by_cases hb : b = a
    · subst hb
      rw [upd_same] at e
      cases e
      exact exK_ok ha hz hd
    · rw [upd_ne hb] at e
      exact (I.hok b u e).stay (fun c v _ q => q) (fun c q => by rw [upd_ne (ne q)]; exact q) fun c xs q => by rw [upd_ne (ne q)]; exact q
/-- what is wished for at a try whose suite keeps the error -/
def wKeep (K : PySem.W.Frag) (c : Value) (i : Nat) (ts : Addr → Value → Option Addr → TS) (Wout : WX) (D : Ends) : WX := fun cls d σ H =>
  ∃ b, PySem.W.exmOne K cls c = some b ∧ (b = false → Wout cls d σ H) ∧ (b = true → ∀ a, H a = none →
    ts a cls d { nx := fun σ' H' => D.nx (σ'.set i none) (upd H' a (ExK cls d a)), rt := fun _ _ => False, bk := fun _ _ => False, ct := fun _ _ => False } (σ.set i (some (.ref a))) H)
theorem ps_try_keep {x n : Str} {i : Nat} {c : Value} {tb : WX → TS} {ts : Addr → Value → Option Addr → TS} {Wout : WX} {body suite : List Stmt} {st : Stmt} {np pos pos' : Pos}
    (hst : X.stack = X.env :: X.outer) (hfl : X.env.frame = some X.env.locals) (hN : X.N.Nodup) (hi : X.N[i]? = some n) (hln : X.env.kindOf n = some .local) (hc : Names X x c) (tk : Takes X Wout)
    (hb : ∀ (W : WX) (pn : List (Addr × Obj)) (xe : Value → Shared → Prop), Takes (X.tr pn xe) W → PassesOwn (model X.prog X.w) X.A X.env xe → PSs (X.tr pn xe) body (tb W))
    (hsu : ∀ (a : Addr) (oe : Obj) (cls : Value) (d : Option Addr) (pn : List (Addr × Obj)), Zc cls d oe → (∃ vs, oe.data = .fields vs) → PSs (X.suite a ((a, oe) :: pn)) (st :: suite) (ts a cls d)) :
    PS X (.Try body [.ExceptHandler (some (.Name x np)) (some n) (st :: suite) pos'] [] [] pos) (fun D σ H => tb (wKeep X.K c i ts Wout D) D σ H) := by
  refine ⟨fun pins s σ H D I h => ?_⟩
  have ok := I.ok
  have hfrm : X.A.frames = some (X.env :: X.outer) := by rw [ok.frames, hst]
  refine wpAny_Try_except ?_
  have hrun := (hb (wKeep X.K c i ts Wout D) (X.pn ++ pins) (fun e s₁ => wpAny (model X.prog X.w) X.A (noteFrame e X.env)
      (fun _ s₂ => wpAny (model X.prog X.w) X.A (setFlight e none)
        (fun _ s₃ => wpAny (model X.prog X.w) X.A (handleBy e X.env [.ExceptHandler (some (.Name x np)) (some n) (st :: suite) pos']) (SP X pins D) X.xe s₃) X.xe s₂) X.xe s₁)
      (fun u s' xx => ?_) PassesOwn.looking).run [] s σ H D (I.toTry _) h
  · refine wpAny_mono hrun (fun f s1 hsp => ?_) (fun _ _ he => he)
    cases f with
    | next =>
      obtain ⟨σ', H', J', q⟩ := hsp
      exact wpAny_execs_nil ⟨_, _, J'.ofTry ok, q⟩
    | ret u =>
      obtain ⟨v, σ', H', J', r, q⟩ := hsp
      exact ⟨_, _, _, J'.ofTry ok, r, q⟩
    | brk =>
      obtain ⟨σ', H', J', q⟩ := hsp
      exact ⟨_, _, J'.ofTry ok, q⟩
    | cont =>
      obtain ⟨σ', H', J', q⟩ := hsp
      exact ⟨_, _, J'.ofTry ok, q⟩
  · obtain ⟨a, B, sI, pins', σ', H', cls, d, rfl, J', nb, up, sky, na, os, ag, b, hb1, hno, hyes⟩ := xx
    have J : Inv X pins σ' H' sI := J'.ofTry ok
    rw [show (X.tr (X.pn ++ pins) _).stack = X.env :: X.outer from hst] at sky
    refine Sky.land Zc.steady hfrm hfl sky fun h3 fl3 up3 => ?_
    have J3 : Inv X pins σ' H' { s' with heap := h3 } := J.landed nb fl3.1 (up.trans up3) os ag
    obtain ⟨oe3, vs3, he3, hz3, hd3⟩ := fl3.there
    have nfr : a ∉ frs (X.env :: X.outer) := fun hm => by
      obtain ⟨_, o', e', hnf⟩ := fl3.2.2.1.mem hm
      rw [he3] at e'
      cases e'
      exact hnf _ hd3
    have nL : a ≠ X.env.locals := fun z => nfr (List.mem_filterMap.mpr ⟨X.env, List.mem_cons_self, by rw [hfl, z]⟩)
    have nF : a ∉ X.fs := fun hm => by
      obtain ⟨e, he, q⟩ := List.mem_filterMap.mp hm
      exact nfr (List.mem_filterMap.mpr ⟨e, List.mem_cons_of_mem _ he, q⟩)
    have nsI : sI.heap.get? a = none := by
      cases e : sI.heap.get? a with
      | none => rfl
      | some o =>
        have e2 := nb a o e (by rw [show (X.tr (X.pn ++ pins) _).stack = X.env :: X.outer from hst]; exact nfr)
        rw [fl3.2.1] at e2
        cases e2
    have n0 : ∀ o, X.s_0.heap.get? a = some o → a ∈ X.ex := fun o e => by
      apply Classical.byContradiction
      intro hx
      obtain ⟨o', e'⟩ := J.base.there a o e hx
      rw [nsI] at e'
      cases e'
    have npin : ∀ p ∈ X.pn ++ pins, p.1 ≠ a := fun p hp z => by
      have e' := (J.pin p hp).1
      rw [z, nsI] at e'
      cases e'
    have S3 := J3.suite he3 hd3 na nL nF
    refine wpAny_handleBy_cons (codeAny_handlers_test ?_) (fun q => by cases q)
    have LT : PySem.W.Looks (model X.prog X.w) h3 (typeOf (.ref a)) cls := fun A Q E s k q => wpAny_typeOf_ref (k _ _ he3) (by rw [hz3.1]; exact q)
    have LM := PySem.W.exm_one (M := model X.prog X.w) (J3.kIn) LT hb1
    have test : ∀ {Q E : Value → Shared → Prop}, Q c { s' with heap := h3 } →
        wpAny (model X.prog X.w) (X.A.mark (some (.ref a))) (eval (.Name x np) X.env) Q E { s' with heap := h3 } := fun {Q E} q => by
      rcases hc with ⟨hg, hdbg, hm | ⟨hm, hv, hnn⟩⟩
      · exact ld_glob (X := X.suite a ((a, oe3) :: (X.pn ++ pins))) S3 hg hm q hdbg
      · exact ld_blt (X := X.suite a ((a, oe3) :: (X.pn ++ pins))) S3 hg hm hv q hnn hdbg
    refine test (LM.here ?_)
    cases b with
    | false =>
      refine wpAny_handleBy_nil ?_
      obtain ⟨k1, k2, k3, oe, vs, T, oT, ts', he, hz, hd, h1, hr⟩ := id fl3
      unfold PySem.passOn
      refine wpAny_bind (wpAny_field he hd h1 ?_)
      rw [if_neg (show ¬ ((Value.ref T == Value.none) = true) by simp)]
      have fin : wpAny (model X.prog X.w) X.A (setFlight (.ref a) X.env.frame)
          (fun _ s4 => wpAny (model X.prog X.w) X.A (throw (.ref a) : Sem Flow) (SP X pins D) X.xe s4) X.xe { s' with heap := h3 } := by
        rw [hfl]
        refine HandSPX.setFlight_upZ fl3 fun h4 hh4 up4 => wpAny_throw (tk _ _ ⟨a, B, sI, pins, σ', H', cls, d, rfl, J, fun b o e hb => nb b o e hb, (up.trans up3).trans up4, .inr (.inr ?_), na, os, ag, hno rfl⟩)
        rw [hst]
        exact hh4
      first
        | exact wpAny_bind (wpAny_pure (wpAny_bind fin))
        | exact wpAny_bind fin
    | true =>
      refine codeAny_handlers_suite_as ?_
      refine HandSPX.lands_againZ fl3 fun h4 fl4 up4 => ?_
      have J4 : Inv X pins σ' H' { s' with heap := h4 } := J.landed nb fl4.1 ((up.trans up3).trans up4) os ag
      obtain ⟨oe4, vs4, he4, hz4, hd4⟩ := fl4.there
      have S4 := J4.suite he4 hd4 na nL nF
      refine store_ok (X := X.suite a ((a, oe4) :: (X.pn ++ pins))) (v := .ref a) S4 hN hi (.inl hln) rfl (fun s5 S5 => ?_) (.inr hln)
      have hsuite := (hsu a oe4 cls d (X.pn ++ pins) hz4 ⟨_, hd4⟩).run [] s5 _ H' _ S5 (hyes rfl a na)
      refine wpAny_mono hsuite (fun f s6 hsp => ?_) (fun _ _ z => z.elim)
      cases f with
      | next =>
        obtain ⟨σ6, H6, S6, q6⟩ := hsp
        have pa := S6.pin (a, oe4) (List.mem_append_left _ List.mem_cons_self)
        exact gone_ok (track (S6.unsuite ok) pa.1 hz4 hd4 pa.2.1 nL n0 npin) hN hi hln fun s7 J7 => ⟨_, _, J7, q6⟩
      | brk =>
        obtain ⟨_, _, _, q6⟩ := hsp
        exact q6.elim
      | cont =>
        obtain ⟨_, _, _, q6⟩ := hsp
        exact q6.elim
      | ret u =>
        obtain ⟨_, _, _, _, _, q6⟩ := hsp
        exact q6.elim
end
/-! ### isinstance of a kept error -/
/-- the dict of an error, where it has one, is tracked -/
def DictIn (H : Hp) : Option Addr → Prop
  | none => True
  | some dx => ∃ fs, H dx = some (.xd fs)
theorem DictIn.same {H H' : Hp} {d : Option Addr} (h : DictIn H d) (s : Same H H') : DictIn H' d := by
  cases d with
  | none => trivial
  | some dx =>
    obtain ⟨fs, e⟩ := h
    exact ⟨fs, s _ _ e⟩
def rIsX (K : PySem.W.Frag) : List V → Hp → VK → Prop := fun xs H Q => ∃ (a C : Addr) (d : Option Addr) (c : V) (cv : Value) (b : Bool), xs = [.ref a, c] ∧ H a = some (ExK (.ref C) d a) ∧ DictIn H d ∧ ExcC K C ∧ RelV c cv ∧ (∀ u, RelV c u → u = cv) ∧ PySem.W.kitOne K (.ref C) cv = some b ∧ Q (.bl b) H
theorem call_isX {X : Cx} : CallR X (.builtin "isinstance") (rIsX X.K) := by
  intro pins s σ H xs us Q I r h
  obtain ⟨a, C, d, c, cv, b, rfl, ha, hdi, T, _, hcv, e, q⟩ := h
  cases r with
  | cons rx rr =>
    cases rr with
    | cons rt rr =>
      cases rr
      cases rx
      have ec := hcv _ rt
      subst ec
      obtain ⟨⟨oe, vs, hget, hz, hv⟩, _, _⟩ := I.hok a _ ha
      obtain ⟨cd, hcd, _⟩ := PySem.W.any_some T.hd
      have hcl : (PySem.W.clsIn X.K C).isSome = true := by rw [hcd]; rfl
      have J : ∃ od, PySem.W.InstAt s.heap a oe C od := by
        obtain ⟨oc, odi, oda, osl⟩ := oe
        obtain ⟨h1, h2⟩ := hz
        dsimp only at h1 h2 hv
        subst h1 h2 hv
        cases odi with
        | none => exact ⟨none, hget, rfl, rfl, trivial⟩
        | some dx =>
          obtain ⟨fs, hfs⟩ := hdi
          obtain ⟨od, hod⟩ := objOk_get (I.hok dx _ hfs)
          exact ⟨some od, hget, rfl, rfl, hod⟩
      obtain ⟨od, J⟩ := J
      exact PySem.W.kia_one (PySem.W.kitx_exc hcl T.hg T.hk T.hs T.ha T.hn T.ht T.hm) I.kIn J e (fun z => nomatch z) fun tk => ⟨.bl b, H, I.kept (t' := tk) fun _ _ z => z, rfl, q⟩
theorem rIsX_r {K : PySem.W.Frag} {a : Addr} {c : V} {H : Hp} {Q : VK} : rIsX K [.ref a, c] H Q = ∃ (C : Addr) (d : Option Addr) (cv : Value) (b : Bool), H a = some (ExK (.ref C) d a) ∧ DictIn H d ∧ ExcC K C ∧ RelV c cv ∧ (∀ u, RelV c u → u = cv) ∧ PySem.W.kitOne K (.ref C) cv = some b ∧ Q (.bl b) H :=
  propext ⟨fun ⟨_, C, d, _, cv, b, e, h⟩ => by cases e; exact ⟨C, d, cv, b, h⟩, fun ⟨C, d, cv, b, h⟩ => ⟨a, C, d, c, cv, b, rfl, h⟩⟩
/-! ### errors made of a text -/
structure Err1 (K : PySem.W.Frag) (mg : Str → Option Value) (x : Str) (C : Addr) : Prop where
  g : mg x = some (.ref C)
  q : PySem.W.excIn K C [.type "ValueError", .type "Exception", .type "BaseException", .type "object"] "ValueError.__new__" = true
  k : PySem.W.keepIn K (.ref C) = true
  s : PySem.W.subIn K (.ref C) (.type "BaseException") = some true
  t : PySem.W.typeIn K (.ref C) = some (.type "type")
theorem ps_raise1 {X : Cx} {x m : Str} {C : Addr} {W : WX} {j : Nat} {p p2 pos pos2 : Pos} (R : Err1 X.K X.mg x C) (hc : X.calm = true) (tk : Takes X W) (hg : Gl X x) (hdb : (x == ("__debug__" : Str)) = false := by decide) :
    PS X (.Raise (some (.Call (.Name x p) [.Constant (.str m) j p2] [] pos)) none pos2) (fun _ σ H => W (.ref C) none σ H) :=
  ps_raise hc tk (pmk_own F.excBase_ValueError R.q R.g R.k (raises_own R.s R.t) hg hdb)
/-! ### promises joined -/
theorem fnOr {P : Program} {w : World} {K : PySem.W.Frag} {mg : Str → Option Value} {base : Heap} {CX : CXT} {k : Nat} {f : Addr} {fd : FuncData} {ps : List Str} {sp1 sp2 : Sp} (F1 : FnOk P w K mg base CX k f fd ps sp1) (F2 : FnOk P w K mg base CX k f fd ps sp2) :
    FnOk P w K mg base CX k f fd ps (fun vs H Q E => sp1 vs H Q E ∨ sp2 vs H Q E) :=
  ⟨fun vs H Q E h => h.elim (F1.len vs H Q E) (F2.len vs H Q E), fun A outer s H args us vs Q E hr he hb hv h => h.elim (F1.run A outer s H args us vs Q E hr he hb hv) (F2.run A outer s H args us vs Q E hr he hb hv)⟩
theorem fnLift {P : Program} {w : World} {K : PySem.W.Frag} {mg : Str → Option Value} {base : Heap} {CX : CXT} {k : Nat} {f : Addr} {fd : FuncData} {ps : List Str} {sp : Sp} (F : FnOk P w K mg base CX0 k f fd ps sp) : FnOk P w K mg base CX k f fd ps sp :=
  ⟨F.len, fun A outer s H args us vs Q E hr he hb hv h => codeAny_mono (F.run A outer s H args us vs Q E hr he hb hv h) fun r s' hq => by
    cases r with
    | error e => exact False.elim hq
    | ok fl => cases fl <;> exact hq⟩
theorem fnDrop {P : Program} {w : World} {K : PySem.W.Frag} {mg : Str → Option Value} {base : Heap} {k : Nat} {f : Addr} {fd : FuncData} {ps : List Str} {sp sp' : Sp} (F : FnOk P w K mg base (L2.CX P w) k f fd ps sp) (h : ∀ vs H Q E, sp' vs H Q E → sp vs H Q E0) : FnOk P w K mg base CX0 k f fd ps sp' :=
  ⟨fun vs H Q E q => F.len vs H Q E0 (h vs H Q E q), fun A outer s H args us vs Q E hr he hb hv q => codeAny_mono (F.run A outer s H args us vs Q E0 hr he hb hv (h vs H Q E q)) fun r s' hq => by
    cases r with
    | error e =>
      obtain ⟨_, _, _, _, _, _, _, _, _, _, _, _, z⟩ := hq
      exact z
    | ok fl => cases fl <;> exact hq⟩
theorem DefX.drop {P : Program} {w : World} {K : PySem.W.Frag} {mg : Str → Option Value} {base : Heap} {x : Str} {k : Nat} {ps : List Str} {sp sp' : Sp} (D : DefX P w K mg base x k ps sp) (h : ∀ vs H Q E, sp' vs H Q E → sp vs H Q E0) : Def P w K mg base x k ps sp' := by
  obtain ⟨f, fd, h1, h2, h3, h4⟩ := D.ex
  exact ⟨f, fd, h1, h2, h3, fnDrop h4 h⟩
theorem DefX.imp {P : Program} {w : World} {K : PySem.W.Frag} {mg : Str → Option Value} {base : Heap} {x : Str} {k : Nat} {ps : List Str} {sp sp' : Sp} (D : DefX P w K mg base x k ps sp) (h : ∀ vs H Q E, sp' vs H Q E → sp vs H Q E) : DefX P w K mg base x k ps sp' := by
  obtain ⟨f, fd, h1, h2, h3, h4⟩ := D.ex
  exact ⟨f, fd, h1, h2, h3, h4.imp h⟩
theorem pe_globR {X : Cx} {x : Str} {C : Addr} {pos : Pos} (hg : Gl X x) (hm : X.mg x = some (.ref C)) (hd : (x == ("__debug__" : Str)) = false := by decide) : PE X (.Name x pos) (tC (.ref C)) := pe_glob (v := .ref C) hg hm rfl hd
/-! ### what an error is called -/
/-- isinstance's answers for the errors of a class -/
structure Kinds (K : PySem.W.Frag) (C : Addr) (cs : List Addr) (ks : List Bool) : Prop where
  T : ExcC K C
  each : ∀ (i : Nat) (c : Addr), cs[i]? = some c → ∃ b, ks[i]? = some b ∧ PySem.W.kitOne K (.ref C) (.ref c) = some b
  base : PySem.W.kitOne K (.ref C) (.type "ValueError") = some true
def named : List Str → List Bool → List Str
  | n :: ns, k :: ks => if k = true then n :: named ns ks else named ns ks
  | _, _ => []
theorem named_take {ns : List Str} {ks : List Bool} {n : Str} {k : Bool} : ∀ {i : Nat}, ns[i]? = some n → ks[i]? = some k → named (ns.take (i + 1)) (ks.take (i + 1)) = named (ns.take i) (ks.take i) ++ if k = true then [n] else [] := by
  intro i
  induction i generalizing ns ks with
  | zero =>
    intro h1 h2
    cases ns with
    | nil => cases h1
    | cons a ns =>
      cases ks with
      | nil => cases h2
      | cons b ks =>
        cases h1
        cases h2
        show (if k = true then n :: named (ns.take 0) (ks.take 0) else named (ns.take 0) (ks.take 0)) = _
        rfl
  | succ i ih =>
    intro h1 h2
    cases ns with
    | nil => cases h1
    | cons a ns =>
      cases ks with
      | nil => cases h2
      | cons b ks =>
        have := ih (ns := ns) (ks := ks) h1 h2
        show (if b = true then a :: named (ns.take (i + 1)) (ks.take (i + 1)) else named (ns.take (i + 1)) (ks.take (i + 1))) = (if b = true then a :: named (ns.take i) (ks.take i) else named (ns.take i) (ks.take i)) ++ _
        rw [this]
        split <;> rfl
theorem named_len : ∀ (ns : List Str) (ks : List Bool), (named ns ks).length ≤ ns.length
  | [], _ => Nat.le_refl _
  | _ :: _, [] => Nat.zero_le _
  | n :: ns, k :: ks => by
    have := named_len ns ks
    show (if k = true then n :: named ns ks else named ns ks).length ≤ ns.length + 1
    split
    · rw [List.length_cons]; omega
    · omega
end Bk

namespace Bk
open PySem PySem.Spec PyProof.Rows L2
/-! ### isinstance of a kept error, many classes; its fields -/
theorem instX {X : Cx} {pins : List (Addr × Obj)} {σ : L2.St} {H : Hp} {s : Shared} {a C : Addr} {d : Option Addr} (I : Inv X pins σ H s) (ha : H a = some (ExK (.ref C) d a)) (hdi : DictIn H d) : ∃ oe od, PySem.W.InstAt s.heap a oe C od := by
  obtain ⟨⟨oe, vs, hget, hz, hv⟩, _, _⟩ := I.hok a _ ha
  refine ⟨oe, ?_⟩
  obtain ⟨oc, odi, oda, osl⟩ := oe
  obtain ⟨h1, h2⟩ := hz
  dsimp only at h1 h2 hv
  subst h1 h2 hv
  cases odi with
  | none => exact ⟨none, hget, rfl, rfl, trivial⟩
  | some dx =>
    obtain ⟨fs, hfs⟩ := hdi
    obtain ⟨od, hod⟩ := objOk_get (I.hok dx _ hfs)
    exact ⟨some od, hget, rfl, rfl, hod⟩
def rIsXT (K : PySem.W.Frag) : List V → Hp → VK → Prop := fun xs H Q => ∃ (a C tp : Addr) (d : Option Addr) (cs : List V) (us : List Value) (b : Bool), xs = [.ref a, .ref tp] ∧ H a = some (ExK (.ref C) d a) ∧ DictIn H d ∧ ExcC K C ∧ H tp = some (.tup cs) ∧ Paired ClsV cs us ∧ PySem.W.kitAny K (.ref C) us = some b ∧ Q (.bl b) H
theorem call_isXT {X : Cx} : CallR X (.builtin "isinstance") (rIsXT X.K) := by
  intro pins s σ H xs us Q I r h
  obtain ⟨a, C, tp, d, cs, ws, b, rfl, ha, hdi, T, hT, k, e, q⟩ := h
  obtain ⟨u1, u2, rfl, r1, r2⟩ := vals2 r
  cases (show u1 = Value.ref a from r1)
  cases (show u2 = Value.ref tp from r2)
  obtain ⟨cd, hcd, _⟩ := PySem.W.any_some T.hd
  have hcl : (PySem.W.clsIn X.K C).isSome = true := by rw [hcd]; rfl
  obtain ⟨oe, od, J⟩ := instX I ha hdi
  obtain ⟨_, its, rv, o, h1, h2, n, h3⟩ := (show ObjOk X.prog X.w H s.heap tp (.tup cs) from I.hok tp _ hT)
  have e3 := ClsV.all k rv
  subst e3
  obtain ⟨oc, od', dt, sl⟩ := o
  simp only at h2 h3
  subst h2 h3
  exact PySem.W.kia_tup (PySem.W.kitx_exc hcl T.hg T.hk T.hs T.ha T.hn T.ht T.hm) I.kIn J h1 e (fun z => nomatch z) fun tk => ⟨.bl b, H, I.kept (t' := tk) fun _ _ z => z, rfl, q⟩
theorem rIsXT_r {K : PySem.W.Frag} {a tp : Addr} {H : Hp} {Q : VK} : rIsXT K [.ref a, .ref tp] H Q = ∃ (C : Addr) (d : Option Addr) (cs : List V) (us : List Value) (b : Bool), H a = some (ExK (.ref C) d a) ∧ DictIn H d ∧ ExcC K C ∧ H tp = some (.tup cs) ∧ Paired ClsV cs us ∧ PySem.W.kitAny K (.ref C) us = some b ∧ Q (.bl b) H :=
  propext ⟨fun ⟨_, C, _, d, cs, us, b, e, h⟩ => by cases e; exact ⟨C, d, cs, us, b, h⟩, fun ⟨C, d, cs, us, b, h⟩ => ⟨a, C, tp, d, cs, us, b, rfl, h⟩⟩
/-- a field of a kept error -/
def tXk (K : PySem.W.Frag) (n : Str) (te : TE) : TE := fun σ H Q => te σ H fun x H1 => ∃ (a C dd : Addr) (fs : List (Str × V)) (v : V), x = .ref a ∧ H1 a = some (ExK (.ref C) (some dd) a) ∧ XfC K C ∧ PySem.W.findIn K (.ref C) n = some none ∧ H1 dd = some (.xd fs) ∧ fs.lookup n = some v ∧ Q v H1
theorem pe_xk {X : Cx} {e : Expr} {te : TE} {pos : Pos} {n : Str} (he : PE X e te) (hb : attributeBase e n X.env (eval e X.env) = eval e X.env := by rfl) : PE X (.Attribute e n pos) (tXk X.K n te) := by
  refine ⟨fun pins s σ H Q I h => ?_⟩
  refine attr_of hb (thn (he.run pins s σ H _ I h) fun u s1 hh => ?_)
  obtain ⟨x, H1, I1, rx, a, C, dd, fs, v, ex, ha, T, hno, ea, l, q⟩ := hh
  subst ex
  obtain rfl : u = Value.ref a := rx
  obtain ⟨⟨oe, vs, hget, hz, hd⟩, _, _⟩ := I1.hok a _ ha
  have hx : ObjOk X.prog X.w H1 s1.heap dd (.xd fs) := I1.hok dd _ ea
  obtain ⟨mA, hns, hr⟩ := hx
  obtain ⟨od, ho, hl⟩ := lookIn_ns hns
  obtain ⟨u, hu, ru⟩ := RelO.some_of (v := v) (o := mA n) (by rw [← l]; exact hr n)
  have J : PySem.W.InstAt s1.heap a oe C (some od) := ⟨hget, hz.1, by unfold PySem.W.notCls; rw [hd] <;> rfl, by rw [hz.2]; exact ho⟩
  exact HandSPX.exc_get I1.kIn J T.ga T.gg T.exC (PySem.W.findObj_own T.hdC hno rfl (by rw [hl, hu])) (handed_of ru) ⟨v, H1, I1.tok _, ru, q⟩
end Bk

namespace Bk
open PySem PySem.Spec PyProof.Rows L2
/-! ### repr of data with {} in it: the table of modules is not among what is shown -/
structure NoSys (K : PySem.W.Frag) (H : Hp) : Prop where
  k : K.lookup sysModules = none
  h : ∃ o φ, H sysModules = some (.frz o (.ext φ))
theorem NoSys.same {K : PySem.W.Frag} {H H' : Hp} (n : NoSys K H) (s : Same H H') : NoSys K H' := by
  obtain ⟨o, φ, e⟩ := n.h
  exact ⟨n.k, o, φ, s _ _ e⟩
theorem NoSys.lst {K : PySem.W.Frag} {H : Hp} {a : Addr} {xs : List V} (n : NoSys K H) (h : SqL K H a xs) : a ≠ sysModules := fun z => by
  obtain ⟨o, φ, e⟩ := n.h
  subst z
  rcases h with (h | ⟨ob, h⟩) | ⟨ob, its, m, h, _⟩
  · rw [e] at h; cases h
  · rw [e] at h; cases h
  · rw [n.k] at h; cases h
theorem NoSys.dic {K : PySem.W.Frag} {H : Hp} {a : Addr} (n : NoSys K H) (h : H a = some (.dK [])) : a ≠ sysModules := fun z => by
  obtain ⟨o, φ, e⟩ := n.h
  subst z
  rw [e] at h
  cases h
section
variable {X : Cx} {pins : List (Addr × Obj)} {σ : L2.St} {H : Hp} {s : Shared}
theorem dic_reads (I : Inv X pins σ H s) {a : Addr} (h : H a = some (.dK [])) : Reads s.heap (.ref a) (.dict []) [a] := by
  obtain ⟨_, _, vs, r, o, es, ep, e1, e2, e3, _, e4, _⟩ := I.hok a _ h
  have hv : vs = [] := by
    cases r
    rfl
  subst hv
  have he : es.toList = [] := by
    cases hh : es.toList with
    | nil => rfl
    | cons x y => rw [hh] at e4; cases e4
  have := Reads.dict (as := []) (bs := []) (kvs := []) e1 e2.1 e3 (by rw [he]; exact ReadsAll.nil) (by rw [he]; exact ReadsAll.nil)
  exact this
mutual
theorem Th.reads (I : Inv X pins σ H s) (n : NoSys X.K H) : ∀ {v : V} {d : PyData} {u : Value}, Th X.K H v d → RelV v u → ∃ as, Reads s.heap u d as ∧ sysModules ∉ as
  | _, _, _, .non, r => by cases r; exact ⟨_, Reads.none, by simp⟩
  | _, _, _, .bl b, r => by cases r; exact ⟨_, Reads.bool b, by simp⟩
  | _, _, _, .int i, r => by obtain ⟨t, rfl⟩ := r; exact ⟨_, Reads.int i t, by simp⟩
  | _, _, _, .str x, r => by obtain ⟨t, rfl⟩ := r; exact ⟨_, Reads.str x t, by simp⟩
  | _, _, _, .lst h t, r => by
    cases r
    have hne := n.lst h
    obtain ⟨its, rv, ⟨o, m, ho, hc, _, hd⟩, _⟩ := I.list h
    obtain ⟨as, hr, hn⟩ := ThAll.reads I n t rv
    exact ⟨_, Reads.list ho hc hd hr, by simp only [List.mem_cons, not_or]; exact ⟨Ne.symm hne, hn⟩⟩
  | _, _, _, .tup h t, r => by
    cases r
    obtain ⟨its, rv, ⟨o, ho, hc, m, hd⟩, _⟩ := I.tuple h
    obtain ⟨as, hr, hn⟩ := ThAll.reads I n t rv
    exact ⟨_, Reads.tuple ho hc hd hr, hn⟩
  | _, _, _, .dic h, r => by
    cases r
    exact ⟨_, dic_reads I h, by simp only [List.mem_singleton]; exact Ne.symm (n.dic h)⟩
theorem ThAll.reads (I : Inv X pins σ H s) (n : NoSys X.K H) : ∀ {vs : List V} {ds : List PyData} {us : List Value}, ThAll X.K H vs ds → Vals vs us → ∃ as, ReadsAll s.heap us ds as ∧ sysModules ∉ as
  | _, _, _, .nil, r => by cases r; exact ⟨_, ReadsAll.nil, by simp⟩
  | _, _, _, .cons h t, r => by
    cases r with
    | cons r1 r2 =>
      obtain ⟨as, q1, n1⟩ := Th.reads I n h r1
      obtain ⟨bs, q2, n2⟩ := ThAll.reads I n t r2
      exact ⟨_, ReadsAll.cons q1 q2, by rw [List.mem_append]; exact fun z => z.elim n1 n2⟩
end
end
/-- what may be shown: ints of few figures, not too deep, not too long -/
structure ShowsM (d : PyData) : Prop where
  able : d.showable = true
  deep : d.depth ≤ 60
  short : d.shown.length ≤ sizeLine
def rReprM (K : PySem.W.Frag) : List V → Hp → VK → Prop := fun xs H Q => ∃ x d, xs = [x] ∧ Th K H x d ∧ NoSys K H ∧ ShowsM d ∧ Q (.str d.shown) H
theorem call_reprM {X : Cx} (hg : X.A.guards = some []) (hu : X.A.units + 64 < cLine) : CallR X (.builtin "repr") (rReprM X.K) := by
  intro pins s σ H xs us Q I r h
  obtain ⟨x, d, rfl, hx, hn, hd, q⟩ := h
  cases r with
  | cons rx rr =>
  cases rr
  rename_i u
  obtain ⟨as, rd, hs⟩ := Th.reads I hn hx rx
  have deep := hd.deep
  have fin : ∀ a : Addr, u = .ref a → wpAny (model X.prog X.w) X.A (call (.builtin "repr") [u]) (EP X pins σ Q) X.xe s := fun a e => by
    subst e
    exact repr_of_reads' rd hd.able (fun _ => hs) hg (by omega) (fun _ _ e => e) (fun h' u tk hk => ⟨.str d.shown, H, I.kept (h' := h') (t' := tk) hk, ⟨_, rfl⟩, q⟩) hd.short
  cases hx with
  | non =>
    cases (show u = Value.none from rx)
    exact PySem.P.repr_of_none ⟨.str (PyData.shown .none), H, I.tok _, ⟨_, rfl⟩, q⟩
  | bl b =>
    cases (show u = Value.bool b from rx)
    exact PySem.P.repr_of_bool ⟨.str (PyData.shown (.bool b)), H, I.tok _, ⟨_, rfl⟩, q⟩
  | int i =>
    obtain ⟨t, rfl⟩ := (show ∃ t, u = Value.int i t from rx)
    have ha : i.natAbs.log2 < 1920 := by
      have := hd.able
      simpa only [PyData.showable, decide_eq_true_eq] using this
    exact PySem.P.repr_of_int ha ⟨.str (PyData.shown (.int i)), H, I.tok _, ⟨_, rfl⟩, q⟩
  | str y =>
    obtain ⟨t, rfl⟩ := (show ∃ t, u = Value.str y t from rx)
    exact PySem.P.repr_of_str ⟨.str (PyData.shown (.str y)), H, I.tok _, ⟨_, rfl⟩, q⟩ hd.short
  | lst h t => exact fin _ rx
  | tup h t => exact fin _ rx
  | dic h => exact fin _ rx
theorem rReprM_r {K : PySem.W.Frag} {x : V} {H : Hp} {Q : VK} : rReprM K [x] H Q = ∃ d, Th K H x d ∧ NoSys K H ∧ ShowsM d ∧ Q (.str d.shown) H := propext ⟨fun ⟨y, d, e, h⟩ => by cases e; exact ⟨d, h⟩, fun ⟨d, h⟩ => ⟨x, d, rfl, h⟩⟩
/-- the law's own call, where the table of modules is held fast -/
theorem law_runM {P : Program} {w : World} {K : PySem.W.Frag} {mg mb : Str → Option Value} {k : Nat} {fa a : Addr} {fd : FuncData} {x : Str} {sp : Sp} {t : Shared} {us : List Value} {ns : List Int} {o1 : Obj} (kin : K.In t.heap) (glob : t.heap.Ns mainGlobals mg) (blt : t.heap.Ns builtinsNs mb)
    (boot : ∀ y : Str, y ≠ "__name__" → mb y = bootBuiltins y) (lim : t.heap.NoLimit) (none_g : t.gens = #[]) (hs1 : t.heap.get? sysModules = some o1) (hk1 : K.lookup sysModules = none) (at_a : t.heap.get? a = some { cls := .type "list", data := .seq us.toArray }) (hd1 : ∀ v n, o1.data ≠ .seq v n) (its0 : IntsAre us ns) (few : ns.length ≤ sizeLine) (room : Room k callerA)
    (F : ∀ base : Heap, K.In base → base.Ns mainGlobals mg → RunG P w K mg base k fa fd [x] sp) (binds : ∀ (s : Shared) (u : Value), BindsTo s fd ⟨[u], []⟩ [(x, u)])
    (law : ∀ H : Hp, SqL K H a (ns.map V.int) → NoSys K H → sp [.ref a] H (fun v _ => v = .bl true) fun _ _ _ => False) :
    codeAny (model P w) callerA (.call (.ref fa) ⟨[.ref a], []⟩) (fun r s' => r = .ok (.ret (.bool true)) ∧ OldK t.heap s'.heap ∧ s'.os = t.os ∧ AllBare s'.gens) t := by
  have rel0 := vals_ints its0
  have na1 : a ≠ sysModules := fun z => by
    rw [z, hs1] at at_a
    cases at_a
    exact hd1 _ _ rfl
  let fz : HO := .frz o1 (.ext fun _ => True)
  have ok1 : ∀ H : Hp, ObjOk P w H t.heap sysModules fz := fun H => ⟨hs1, trivial, ⟨o1, hs1⟩, fun _ _ _ _ => trivial⟩
  have go : ∀ H : Hp, (∀ b o, H b = some o → (b = a ∧ K.lookup a = none ∧ ∃ ob ys, o = .frz ob (.lst ys)) ∨ (b = sysModules ∧ o = fz)) → H sysModules = some fz → SqL K H a (ns.map V.int) → HOk P w H t.heap →
      codeAny (model P w) callerA (.call (.ref fa) ⟨[.ref a], []⟩) (fun r s' => r = .ok (.ret (.bool true)) ∧ OldK t.heap s'.heap ∧ s'.os = t.os ∧ AllBare s'.gens) t := by
    intro H only hsys seq hok
    have names : ∀ {b : Addr} {m : Str → Option Value}, b ≠ sysModules → t.heap.Ns b m → (hidT t.heap H).Ns b m := by
      rintro b m hb ⟨o, es, n, e, d, r⟩
      refine ⟨o, es, n, hidT_get e ?_, d, r⟩
      cases q : H b with
      | none => rfl
      | some z =>
        rcases only b z q with ⟨rfl, _⟩ | ⟨hh, _⟩
        · rw [at_a] at e
          cases e
          cases d
        · exact absurd hh hb
    have kin2 : K.In (hidT t.heap H) := by
      intro b o e
      refine hidT_get (kin b o e) ?_
      cases q : H b with
      | none => rfl
      | some z =>
        rcases only b z q with ⟨rfl, n, _⟩ | ⟨rfl, _⟩
        · rw [n] at e; cases e
        · rw [hk1] at e; cases e
    obtain ⟨mc, l1, l2⟩ := lim
    have n1 : mainGlobals ≠ sysModules := by decide
    have env : Env0 P w K mg (hidT t.heap H) callerA [] t H := by
      refine ⟨rfl, ⟨kin2, names n1 glob, ⟨mb, names (by decide) blt, boot⟩, ⟨mc, names (by decide) l1, l2⟩⟩, fun b o e => of_hidT e, Nat.le_of_eq (hidT_size _ _), trivial, fun b hb => ?_, hok, .of_eq none_g⟩
      cases hb
    refine codeAny_mono ((F _ kin2 (names n1 glob)).2 callerA [] t H ⟨[.ref a], []⟩ [.ref a] [.ref a] _ _ rfl room env (binds t (.ref a)) (.cons rfl .nil) (law H seq ⟨hk1, _, _, hsys⟩)) ?_
    intro r s' h
    match r, h with
    | .ok (.ret u), ⟨v, H', os, bare, un, hok', rl, q⟩ =>
      have q : v = .bl true := q
      subst q
      have rl : u = Value.bool true := rl
      subst rl
      refine ⟨rfl, OldK.of_keep fun b o e => ?_, os, bare⟩
      cases z : H b with
      | none => exact un.keep b o e z (fun m => nomatch m) (fun m => nomatch m)
      | some y =>
        have frz : ∀ ob u, y = .frz ob u → s'.heap.get? b = some o := fun ob u ey => by
          subst ey
          have k1 := (hok b _ z).1
          have k2 := (hok' b _ (un.frzs b ob _ z)).1
          rw [e] at k1
          cases k1
          exact k2
        rcases only b y z with ⟨_, _, ob, ys, ey⟩ | ⟨_, ey⟩
        · exact frz _ _ ey
        · exact frz _ _ ey
  cases hk : K.lookup a with
  | none =>
    have ea : (fun b => if b = sysModules then some fz else if b = a then some (HO.frz { cls := .type "list", data := .seq us.toArray } (.lst (ns.map V.int))) else none) a = some (HO.frz { cls := .type "list", data := .seq us.toArray } (.lst (ns.map V.int))) := by
      show (if a = sysModules then some fz else if a = a then some _ else none) = _
      rw [if_neg na1, if_pos rfl]
    refine go (fun b => if b = sysModules then some fz else if b = a then some (.frz { cls := .type "list", data := .seq us.toArray } (.lst (ns.map V.int))) else none) (fun b o e => ?_) (if_pos rfl) (.inl (.inr ⟨_, ea⟩)) (fun b o e => ?_)
    · try dsimp only at e
      by_cases h1 : b = sysModules
      · rw [if_pos h1] at e
        exact .inr ⟨h1, (Option.some.inj e).symm⟩
      · rw [if_neg h1] at e
        by_cases h2 : b = a
        · rw [if_pos h2] at e
          exact .inl ⟨h2, hk, _, _, (Option.some.inj e).symm⟩
        · rw [if_neg h2] at e
          cases e
    · try dsimp only at e
      by_cases h1 : b = sysModules
      · rw [if_pos h1] at e
        cases e
        rw [h1]
        exact ok1 _
      · rw [if_neg h1] at e
        by_cases h2 : b = a
        · rw [if_pos h2] at e
          cases e
          rw [h2]
          exact ⟨at_a, by rw [List.length_map]; exact few, us, _, rel0, at_a⟩
        · rw [if_neg h2] at e
          cases e
  | some o =>
    have e := kin a o hk
    rw [at_a] at e
    cases e
    refine go (fun b => if b = sysModules then some fz else none) (fun b o e => ?_) (if_pos rfl) (.inr ⟨_, us.toArray, _, hk, rfl, rfl, rfl, ?_, by simpa using rel0⟩) (fun b o e => ?_)
    · try dsimp only at e
      split at e
      · rename_i h1
        exact .inr ⟨h1, (Option.some.inj e).symm⟩
      · cases e
    · rw [List.size_toArray, its0.length]
      exact few
    · try dsimp only at e
      split at e
      · rename_i h1
        cases e
        rw [h1]
        exact ok1 _
      · cases e
theorem walk_M {l : PySem.W.OpenLaw} {n k : Nat} {q : Program} {loose : List Str} {XP : (Str → Option Value) → Heap → Prop} {YP : World → Heap → Prop} {d : DefRec} {K : Params → PySem.W.Frag} {sp : World → Sp} {x : Str}
    (most : l.most = some n) (line : n ≤ sizeLine) (nodef : d.params.defaults = []) (room : Room k callerA) (parts : ∀ (w : World) (h : Heap), YP w h → (K w.params).In h) (imp : importsNone q = true) (hk1 : ∀ w : World, (K w.params).lookup sysModules = none)
    (F : ∀ (w : World) (mg : Str → Option Value) (fa : Addr) (h : Heap), (K w.params).In h → h.Ns mainGlobals mg → mg d.name = some (.ref fa) → ∃ fd : FuncData, (∀ (s : Shared) (u : Value), BindsTo s fd ⟨[u], []⟩ [(x, u)]) ∧
        ∀ base : Heap, (K w.params).In base → base.Ns mainGlobals mg → RunG l.prog w (K w.params) mg base k fa fd [x] (sp w))
    (law : ∀ (w : World) (H : Hp) (a : Addr) (ns : List Int), ns.length ≤ n → SqL (K w.params) H a (ns.map V.int) → NoSys (K w.params) H → sp w [.ref a] H (fun v _ => v = .bl true) fun _ _ _ => False) :
    PySem.W.WalkO q loose XP YP l.row.toRowW d [] (fun f vs => PySem.call f vs) := by
  refine Att.attach_call most nodef fun w s0 s1 mg mb fa o pm cd doc a us ns G Y _ _ _ named obj its0 len gens => ?_
  obtain ⟨fd, hb, hF⟩ := F w mg fa _ (parts w _ Y) G.T.g named
  obtain ⟨_, ⟨o1, es, n1, e1, e2, e3⟩, _⟩ := (G.T.seer imp).mods
  exact law_runM (parts w _ Y) G.T.g G.T.b G.T.builtins G.T.nolimit gens e1 (hk1 w) obj (fun v m z => by rw [e2] at z; cases z) its0 (Nat.le_trans len line) room hF hb fun H => law w H a ns len
end Bk

namespace Bk
open PySem PySem.Spec PyProof.Rows L2
/-! ### errors made as values -/
def tMade (t : L2.St → Hp → XK → Prop) : TE := fun σ H Q => t σ H fun cls d H1 => ∀ a, H1 a = none → Q (.ref a) (upd H1 a (ExK cls d a))
theorem pe_made {X : Cx} {e : Expr} {t : L2.St → Hp → XK → Prop} (M : PMk X e t) : PE X e (tMade t) := by
  refine ⟨fun pins s σ H Q I h => wpAny_mono (M pins s σ H _ I h) (fun u s1 hu => ?_) fun _ _ x => x⟩
  obtain ⟨a, oe, vs, sI, H', cls, d, rfl, J, k, hne, ha, hz, hd, h1, na, os, ag, r, q⟩ := hu
  have I2 := J.laidN (h' := s1.heap) (t' := s1.toks) k hne na (exK_ok ha hz hd)
  exact ⟨.ref a, _, ⟨I2.ok, os.trans I2.os, ag, I2.base, I2.loc, I2.cell, I2.free, I2.freeC, I2.pin, I2.hok, I2.len⟩, rfl, q a na⟩
/-- C(e), a class without own init -/
def tMk1 (C : Addr) (te : TE) : TE := fun σ H Q => te σ H fun _ H1 => ∀ a, H1 a = none → Q (.ref a) (upd H1 a (ExK (.ref C) none a))
theorem pe_mk1 {X : Cx} {x : Str} {C : Addr} {e : Expr} {te : TE} {p pos : Pos} (R : Err1 X.K X.mg x C) (hg : Gl X x) (he : PE X e te) (hs : starEach [e] X.env = (false, eval e X.env) :: starEach [] X.env := by rfl) (hdb : (x == ("__debug__" : Str)) = false := by decide) :
    PE X (.Call (.Name x p) [e] [] pos) (tMk1 C te) := pe_made (SkE.pmk_own1 F.excBase_ValueError R.q R.g R.k (raises_own R.s R.t) hg he hs hdb)
/-- C(u, v), a class whose init keeps both -/
def tMk2 (K : PySem.W.Frag) (C : Addr) (f1 f2 : Str) (ta : TA) : TE := fun σ H Q => ta σ H fun vs H1 => rRaise2 K C f1 f2 (fun cls d _ H2 => ∀ a, H2 a = none → Q (.ref a) (upd H2 a (ExK cls d a))) σ vs H1
theorem pe_mk2 {X : Cx} {x : Str} {C : Addr} {f1 f2 : Str} {ta : TA} {e : Expr} {es : List Expr} {k : Nat} {p pos : Pos} (R : Err2 X.prog X.w X.K X.mg X.base x C f1 f2) (hr : Room k X.A) (hg : Gl X x) (ha : PA X (e :: es) ta) (hk : 2 ≤ k := by omega)
    (hdb : (x == ("__debug__" : Str)) = false := by decide) (he : starEach (e :: es) X.env = (false, eval e X.env) :: starEach es X.env := by rfl) (hpl : (backTo pos (starEach es X.env)).any (·.1) = false := by rfl) :
    PE X (.Call (.Name x p) (e :: es) [] pos) (tMk2 X.K C f1 f2 ta) := by
  obtain ⟨fI, fd, h1, h2, h3, h4⟩ := R.init
  exact pe_made (pmk_oex (pos := pos) (p := p) R.T h1 h2 h4 (hr.mono hk) h3 .nil pass0 hg R.g ha hdb he hpl)
/-! ### the init of an error with one field -/
def spInit1 (K : PySem.W.Frag) (C : Addr) (f1 : Str) : Sp := fun vs H Q _ => ∃ (a : Addr) (u : V), vs = [.ref a, u] ∧ smV u ∧ H a = some (exo a C none) ∧ ∀ dx, H dx = none → dx ≠ a → Q .non (upd (upd H dx (exd dx [(f1, u)])) a (exo a C (some dx)))
theorem mk_init1 {K : PySem.W.Frag} {C a : Addr} {f1 : Str} {H1 : Hp} {u : V} {Q : XK} (hu : smV u) (ha : H1 a = none) (q : ∀ d, H1 d = none → Q (.ref C) (some d) (upd H1 d (.xd [(f1, u)]))) :
    spInit1 K C f1 (.ref a :: ([u] ++ [])) (upd H1 a (exo a C none)) (fun x H2 => x = .non ∧ ∃ (d : Addr) (fs : List (Str × V)), H2 a = some (exo a C (some d)) ∧ H2 d = some (exd d fs) ∧ H1 d = none ∧ Q (.ref C) (some d) (upd (del H2 a) d (.xd fs))) (fun _ _ _ => False) := by
  refine ⟨a, u, rfl, hu, upd_same, fun dx hdx hne => ⟨rfl, dx, [(f1, u)], upd_same, ?_, ?_, ?_⟩⟩
  · rw [upd_ne hne, upd_same]
  · rw [upd_ne hne] at hdx
    exact hdx
  · have hd : H1 dx = none := by rw [upd_ne hne] at hdx; exact hdx
    have e : upd (del (upd (upd (upd H1 a (exo a C none)) dx (exd dx [(f1, u)])) a (exo a C (some dx))) a) dx (.xd [(f1, u)]) = upd H1 dx (.xd [(f1, u)]) := by
      funext b
      by_cases hb : b = dx
      · rw [hb, upd_same, upd_same]
      · rw [upd_ne hb, upd_ne hb]
        by_cases hba : b = a
        · rw [hba, del_same, ha]
        · rw [del_ne hba, upd_ne hba, upd_ne hb, upd_ne hba]
    rw [e]
    exact q dx hd
structure Err1f (P : Program) (w : World) (K : PySem.W.Frag) (mg : Str → Option Value) (base : Heap) (x : Str) (C : Addr) (f1 : Str) : Prop where
  g : mg x = some (.ref C)
  T : OexC K C
  init : ∃ (fI : Addr) (fd : FuncData), PySem.W.findIn K (.ref C) "__init__" = some (some (.ref fI)) ∧ PySem.W.typeIn K (.ref fI) = some (.type "function") ∧ Binds K fd ["self", f1] [] ∧ FnOk P w K mg base CX0 1 fI fd ["self", f1] (spInit1 K C f1)
def rMk1f (K : PySem.W.Frag) (C : Addr) (f1 : Str) (Q : XK) (vs : List V) (H1 : Hp) : Prop := vs.length ≤ 1000 ∧ ∀ a, H1 a = none → spInit1 K C f1 (.ref a :: (vs ++ [])) (upd H1 a (exo a C none))
  (fun v H2 => v = .non ∧ ∃ (d : Addr) (fs : List (Str × V)), H2 a = some (exo a C (some d)) ∧ H2 d = some (exd d fs) ∧ H1 d = none ∧ Q (.ref C) (some d) (upd (del H2 a) d (.xd fs))) (fun _ _ _ => False)
theorem mk1f_of {K : PySem.W.Frag} {C : Addr} {f1 : Str} {Q : XK} {u : V} {H1 : Hp} (hu : smV u) (hd : ∀ d, H1 d = none → Q (.ref C) (some d) (upd H1 d (.xd [(f1, u)]))) : rMk1f K C f1 Q [u] H1 :=
  ⟨by show 1 ≤ 1000; decide, fun a hn => mk_init1 hu hn hd⟩
def tMk1f (K : PySem.W.Frag) (C : Addr) (f1 : Str) (ta : TA) : TE := fun σ H Q => ta σ H fun vs H1 => rMk1f K C f1 (fun cls d H2 => ∀ a, H2 a = none → Q (.ref a) (upd H2 a (ExK cls d a))) vs H1
theorem pe_mk1f {X : Cx} {x : Str} {C : Addr} {f1 : Str} {ta : TA} {e : Expr} {es : List Expr} {k : Nat} {p pos : Pos} (R : Err1f X.prog X.w X.K X.mg X.base x C f1) (hr : Room k X.A) (hg : Gl X x) (ha : PA X (e :: es) ta) (hk : 2 ≤ k := by omega)
    (hdb : (x == ("__debug__" : Str)) = false := by decide) (he : starEach (e :: es) X.env = (false, eval e X.env) :: starEach es X.env := by rfl) (hpl : (backTo pos (starEach es X.env)).any (·.1) = false := by rfl) :
    PE X (.Call (.Name x p) (e :: es) [] pos) (tMk1f X.K C f1 ta) := by
  obtain ⟨fI, fd, h1, h2, h3, h4⟩ := R.init
  exact pe_made (pmk_oex (pos := pos) (p := p) R.T h1 h2 h4 (hr.mono hk) h3 .nil pass0 hg R.g ha hdb he hpl)
end Bk

namespace Bk
open PySem PySem.Spec PyProof.Rows L2
local macro_rules | `(tactic| walk_at "wp") => `(tactic| try simp only [tNever, tFor_eq, tLc_eq, iList, iTup, iRng1_eq, rRng1_i, iRng2_eq, rRng2_i, iEnum_eq, rEnum_r, iZip_eq, rZip_r, tSl, tPart, tNoPart, rSlL_r, rCat_r, rIn_r, gTup_r, gUnl_r, rInt1_b, rInt1_i, rRep_r, tStep_r, scal, tSeq, tNext, tAsg, tRet, tRetN, tIfS, tDrop, tCB, tCons, tNil, tVar, tOp, tUn, tC, rU_i, rI_ii, rI0_ii, rEq, rNe, tTest, tB, tAnd, tOr, tNot, tAndV, tOrV, tNotV, tIf, tChain, tLst, tTup, tBM, tBM0, rAppend_r, rIxL_r, rIxT_r, rMx_ii, rMn_ii, rLnL_r, rLnT_r, rIsD_int, rIsD_bool, rIsD_list, rIsD_tuple, tCall, gName, gNil_n, gCons_c, cxK, L2.start, List.map, List.replicate, List.length_cons, List.length_nil, List.cons_append, List.nil_append, List.append_nil, List.getElem?_cons_zero, List.getElem?_cons_succ, Option.some.injEq, exists_eq_left', exists_eq_left, V.int.injEq, V.bl.injEq, V.str.injEq, V.ref.injEq, List.cons.injEq, and_true, true_and, and_self, List.set, wipe, rAll_r, rSum_r, reduceCtorEq, decide_true, decide_false, reduceIte, ite_true, ite_false, if_true, if_false, Bool.false_eq_true, Bool.not_true, Bool.not_false])
local macro_rules | `(tactic| walk_at "shaped") => `(tactic| (simp only [SeqAt.shaped, PyData.canLay0, PyData.canLayAll0, PyData.depth, PyData.depthAll]; rfl))
local macro_rules | `(tactic| walk_at "lay") => `(tactic| (simp only [PyData.canLay0, PyData.canLayAll0]; rfl))
def top (i : Nat) : Stmt := PySem.Challenge.pw_bakeahead_k04_refusals_made.main.body.getD i (.Pass ⟨0, 0, 0, 0⟩)
structure Bi (mg : Str → Option Value) : Prop where
  len : mg "len" = none
  max : mg "max" = none
  min : mg "min" = none
  range : mg "range" = none
  isinstance : mg "isinstance" = none
  int : mg "int" = none
  bool : mg "bool" = none
  list : mg "list" = none
  tuple : mg "tuple" = none
  all : mg "all" = none
  sum : mg "sum" = none
  repr : mg "repr" = none
  enumerate : mg "enumerate" = none
section
variable {P : Program} {w : World} {K : PySem.W.Frag} {mg : Str → Option Value} {base : Heap}
end
end Bk

namespace Bk
open PySem PySem.Spec PyProof.Rows L2
local macro_rules | `(tactic| walk_at "wp") => `(tactic| try simp only [tNever, tFor_eq, tLc_eq, iList, iTup, iRng1_eq, rRng1_i, iRng2_eq, rRng2_i, iEnum_eq, rEnum_r, iZip_eq, rZip_r, tSl, tPart, tNoPart, rSlL_r, rCat_r, rIn_r, gTup_r, gUnl_r, rInt1_b, rInt1_i, rRep_r, tStep_r, scal, tSeq, tNext, tAsg, tRet, tRetN, tIfS, tDrop, tCB, tCons, tNil, tVar, tOp, tUn, tC, rU_i, rI_ii, rI0_ii, rEq, rNe, tTest, tB, tAnd, tOr, tNot, tAndV, tOrV, tNotV, tIf, tChain, tLst, tTup, tBM, tBM0, rAppend_r, rIxL_r, rIxT_r, rMx_ii, rMn_ii, rLnL_r, rLnT_r, rIsD_int, rIsD_bool, rIsD_list, rIsD_tuple, tCall, gName, gNil_n, gCons_c, cxK, L2.start, List.map, List.replicate, List.length_cons, List.length_nil, List.cons_append, List.nil_append, List.append_nil, List.getElem?_cons_zero, List.getElem?_cons_succ, Option.some.injEq, exists_eq_left', exists_eq_left, V.int.injEq, V.bl.injEq, V.str.injEq, V.ref.injEq, List.cons.injEq, and_true, true_and, and_self, List.set, wipe, rAll_r, rSum_r, reduceCtorEq, decide_true, decide_false, reduceIte, ite_true, ite_false, if_true, if_false, Bool.false_eq_true, Bool.not_true, Bool.not_false])
local macro_rules | `(tactic| walk_at "shaped") => `(tactic| (simp only [SeqAt.shaped, PyData.canLay0, PyData.canLayAll0, PyData.depth, PyData.depthAll]; rfl))
local macro_rules | `(tactic| walk_at "lay") => `(tactic| (simp only [PyData.canLay0, PyData.canLayAll0]; rfl))
section
variable {P : Program} {w : World} {K : PySem.W.Frag} {mg : Str → Option Value} {base : Heap}
abbrev s_numbers : Stmt := top 19
theorem sc_numbers : FnScope ["_law_cell", "_law_salt", "_law_sizes", "_law_number", "_law_left", "_law_found", "_law_k", "_law_one"] ["_law_cell", "_law_salt", "_law_sizes"] (defScope s_numbers) := ⟨rfl, rfl, rfl, by decide +kernel, rfl, by decide +kernel, by decide +kernel⟩
/-- digits: one below each size -/
def Digs (zs fs : List Int) : Prop := fs.length = zs.length ∧ ∀ (i : Nat) (f z : Int), fs[i]? = some f → zs[i]? = some z → 0 ≤ f ∧ f < z
def spNumbers (K : PySem.W.Frag) : Sp := fun vs H Q _ => ∃ (c s : Int) (a : Addr) (zs : List Int), vs = [.int c, .int s, .ref a] ∧ SqL K H a (zs.map V.int) ∧ 0 ≤ s ∧ s ≤ 1000000 ∧ zs.length ≤ 1000 ∧ (∀ z ∈ zs, 0 < z ∧ z.natAbs < 2 ^ 200) ∧
  ∀ H' p fs, Same H H' → H p = none → Digs zs fs → H' p = some (.lst (fs.map V.int)) → Q (.ref p) H'
def NumI (H : Hp) (c s n : Int) (a p : Addr) (zs : List Int) (i : Nat) (σ : L2.St) (H' : Hp) : Prop := ∃ (l : Int) (fs : List Int) (y6 y7 : Option V), σ = [some (.int c), some (.int s), some (.ref a), some (.int n), some (.int l), some (.ref p), y6, y7] ∧ 0 ≤ l ∧ Same H H' ∧ H' p = some (.lst (fs.map V.int)) ∧ fs.length = i ∧
  ∀ (j : Nat) (f z : Int), fs[j]? = some f → zs[j]? = some z → 0 ≤ f ∧ f < z
theorem NumI.next {H H' : Hp} {c s n l x z : Int} {a p : Addr} {zs fs : List Int} {y6 y7 : Option V} (hp : H p = none) (hl : 0 ≤ l) (sm : Same H H') (hb : ∀ (j : Nat) (f z : Int), fs[j]? = some f → zs[j]? = some z → 0 ≤ f ∧ f < z) (g : zs[fs.length]? = some z) (h0 : 0 ≤ x) (h1 : x < z) :
    NumI H c s n a p zs (fs.length + 1) [some (.int c), some (.int s), some (.ref a), some (.int n), some (.int l), some (.ref p), y6, y7] (upd H' p (.lst (fs.map V.int ++ [.int x]))) := by
  refine ⟨l, fs ++ [x], y6, y7, rfl, hl, same_mut sm hp, by rw [upd_same, List.map_append]; rfl, by rw [List.length_append]; rfl, fun j f w e1 e2 => ?_⟩
  by_cases hj : j < fs.length
  · rw [List.getElem?_append_left hj] at e1
    exact hb j f w e1 e2
  · rw [List.getElem?_append_right (by omega)] at e1
    have ej : j - fs.length = 0 := by
      cases q : j - fs.length with
      | zero => rfl
      | succ m => rw [q] at e1; simp at e1
    have ej2 : j = fs.length := by omega
    subst ej2
    rw [ej] at e1
    have e3 : x = f := Option.some.inj e1
    have e4 : z = w := Option.some.inj (g.symm.trans e2)
    subst e3 e4
    exact ⟨h0, h1⟩
theorem ok_numbers {f : Addr} {fd : FuncData} {k : Nat} (F : Fun K "_law_numbers" "_law_numbers" s_numbers f fd) (B : Bi mg) : FnOk P w K mg base CX0 (k + 1) f fd ["_law_cell", "_law_salt", "_law_sizes"] (spNumbers K) := by
  refine F.ok sc_numbers (fun vs H Q E h => ?_) (fun cdv A outer s H vs Q E hr h => ?_)
  · obtain ⟨c, s, a, zs, rfl, _⟩ := h
    rfl
  · obtain ⟨c, s, a, zs, rfl, hS, hs0, hs1, hlen, hz, q⟩ := h
    refine ⟨_, (pss_cons (ps_set (i := 3) sc_numbers.nd rfl (Or.inl rfl) (pe_callB (call_mx rfl) (by rfl) B.max (by decide +kernel) (pa_cons (pv 0) (pa_cons (pe_op op_sub (pe_un un_neg pe_int) (pv 0)) pa_nil))))
 (pss_cons (ps_set (i := 4) sc_numbers.nd rfl (Or.inl rfl) (pv 3))
 (pss_cons (ps_set (i := 5) sc_numbers.nd rfl (Or.inl rfl) (pe_lst pa_nil))
 (pss_cons (ps_for PassesOwn.never rfl (pi_range1 (by rfl) B.range (pa_cons (pe_callB call_lnL (by rfl) B.len (by decide +kernel) (pa_cons (pv 2) pa_nil)) pa_nil)) (pg_name (i := 6) sc_numbers.nd rfl (Or.inl rfl)) (pss_one (ps_if (PW.pt (pw_and (pt_cmpR op_ge (pv 3) (pe_op op_pow pe_int pe_int) (nomark _)) (pw_and1 (pt_cmpR op_gt (pv 4) pe_int (nomark _))))) (pss_cons (ps_expr (pe_bm PySem.F.plainAttrs_list PySem.F.slot_list_append PySem.F.type_list_append mt_append (pv 5) (pa_cons (pe_op op_mod (pv 4) (pe_ix ix_list (pv 2) (pv 6) (fun _ _ => rfl))) pa_nil)))
 (pss_one (ps_set (i := 4) sc_numbers.nd rfl (Or.inl rfl) (pe_op op_fdivW (pv 4) (pe_ix ix_list (pv 2) (pv 6) (fun _ _ => rfl)))))) (pss_cons (ps_set (i := 7) sc_numbers.nd rfl (Or.inl rfl) (pe_op op_mod (pe_op op_pow (pe_op op_add (pe_op op_add (pe_op op_mod (pv 3) pe_int) (pe_op op_mul pe_int (pv 1))) pe_int) pe_int) pe_int))
 (pss_cons (ps_set (i := 7) sc_numbers.nd rfl (Or.inl rfl) (pe_op op_mod (pe_op op_mul (pe_op op_add (pv 7) (pe_op op_mul pe_int (pe_op op_add (pv 6) pe_int))) (pe_op op_add (pv 6) pe_int)) pe_int))
 (pss_cons (ps_set (i := 7) sc_numbers.nd rfl (Or.inl rfl) (pe_op op_mod (pe_op op_mul (pe_op op_mod (pe_op op_pow (pv 7) pe_int) pe_int) pe_int) pe_int))
 (pss_one (ps_expr (pe_bm PySem.F.plainAttrs_list PySem.F.slot_list_append PySem.F.type_list_append mt_append (pv 5) (pa_cons (pe_op op_mod (pe_op op_fdivW (pv 7) pe_int) (pe_ix ix_list (pv 2) (pv 6) (fun _ _ => rfl))) pa_nil))))))))))
 (pss_one (ps_ret (pv 5))))))), ?_⟩
    walk_at "wp"
    refine ⟨Nat.zero_le _, fun p hp => ?_⟩
    have hn0 : 0 ≤ (if -1 - c > c then -1 - c else c) := by split <;> omega
    generalize (if -1 - c > c then -1 - c else c) = n at hn0 ⊢
    refine ⟨_, hS.upd_ hp, by omega, by rw [List.length_map]; omega, ?_⟩
    rw [show (((zs.map V.int).length : Nat) : Int).toNat = zs.length by rw [List.length_map]; omega]
    refine LoopR.by walk_range (NumI H c s n a p zs) ⟨n, [], none, none, rfl, hn0, same_upd hp, upd_same, rfl, fun j f z e => by simp at e⟩ (fun _ _ _ _ _ => trivial) (fun i v σ H0 H' hi hI hY => ?_) (fun σ H' hI => ?_)
    · obtain ⟨l, fs, y6, y7, e, hl, sm, hf, hfl, hb⟩ := hI
      subst e
      obtain ⟨rfl, rfl⟩ := hY
      have g : zs[i]? = some zs[i] := List.getElem?_eq_getElem hi
      obtain ⟨hz0, hz1⟩ := hz _ (List.getElem_mem hi)
      generalize zs[i] = z at g hz0 hz1
      subst hfl
      have hA : SqL K H' a (zs.map V.int) := sm.seq hS
      have ga : atI (zs.map V.int) (0 + (fs.length : Int)) = some (.int z) := atI_map (by omega) (by rw [show (0 + (fs.length : Int)).toNat = fs.length by omega]; exact g)
      have sz : (fs.map V.int).length < sizeLine := sz100l (by rw [List.length_map]; omega)
      have hz9 : CDivW l z := wide_div hz0 hz1 (by decide) (by decide)
      walk_at "wp"
      refine ⟨⟨by decide, by decide, by decide⟩, ?_⟩
      have hB : ∀ o, SqL K (upd H' p o) a (zs.map V.int) := fun o => (same_mut sm hp).seq hS
      have p2 : NumI H c s n a p zs (fs.length + 1) [some (.int c), some (.int s), some (.ref a), some (.int n), some (.int (l / z)), some (.ref p), some (.int (0 + (fs.length : Int))), y7] (upd H' p (.lst (fs.map V.int ++ [.int (l % z)]))) :=
        NumI.next hp (Int.ediv_nonneg hl (by omega)) sm hb g (Int.emod_nonneg _ (by omega)) (Int.emod_lt_of_pos _ hz0)
      have p1 : ∀ (x : Int) (y7 : Option V), NumI H c s n a p zs (fs.length + 1) [some (.int c), some (.int s), some (.ref a), some (.int n), some (.int l), some (.ref p), some (.int (0 + (fs.length : Int))), y7] (upd H' p (.lst (fs.map V.int ++ [.int (x % z)]))) := fun x y7 =>
        NumI.next hp hl sm hb g (Int.emod_nonneg _ (by omega)) (Int.emod_lt_of_pos _ hz0)
      have m1 : 0 ≤ n % 2147483629 ∧ n % 2147483629 < 2147483629 := ⟨Int.emod_nonneg _ (by decide), Int.emod_lt_of_pos _ (by decide)⟩
      have m2 : ∀ x : Int, 0 ≤ x % 2147483629 ∧ x % 2147483629 < 2147483629 := fun x => ⟨Int.emod_nonneg _ (by decide), Int.emod_lt_of_pos _ (by decide)⟩
      have cp : ∀ x : Int, CPow (x % 2147483629) 5 := fun x => ⟨by decide, by decide, by have := m2 x; omega⟩
      have key : ∀ {R : Prop}, (∀ x : Int, ∃ xs v, SqL K H' a xs ∧ atI xs (0 + (fs.length : Int)) = some v ∧ R) → True := fun _ => trivial
      refine ite2 (fun _ => ite2 (fun _ => ?_) (fun _ => ?_)) (fun _ => ?_)
      · refine ⟨tyL (SqL.of hf), _, _, hA, ga, ?_⟩
        walk_at "wp"
        refine ⟨hz0, _, hf, sz, _, _, hB _, ga, ?_⟩
        walk_at "wp"
        exact ⟨hz9, p2⟩
      all_goals
        refine ⟨by decide, .inl ⟨by decide, by decide⟩, ⟨by decide, by decide, by omega⟩, by decide, .inl ⟨by decide, by decide⟩, .inr ⟨by omega, by omega⟩, by decide, cp _, by decide, .inr ⟨by decide, by decide⟩, by decide, tyL (SqL.of hf), wide_div (b := 10) (by decide) (by decide) (by decide) (by decide), _, _, hA, ga, ?_⟩
        walk_at "wp"
        exact ⟨hz0, _, hf, sz, p1 _ _⟩
    · obtain ⟨l, fs, y6, y7, e, hl, sm, hf, hfl, hb⟩ := hI
      subst e
      exact ⟨_, rfl, q H' p fs sm hp ⟨hfl, hb⟩ hf⟩
abbrev s_cell_at : Stmt := top 18
theorem sc_cell_at : FnScope ["_law_script", "_law_k"] ["_law_script", "_law_k"] (defScope s_cell_at) := ⟨rfl, rfl, rfl, by decide +kernel, rfl, by decide +kernel, by decide +kernel⟩
def spCellAt (K : PySem.W.Frag) : Sp := fun vs H Q _ => ∃ (a : Addr) (ns : List Int) (i : Nat), vs = [.ref a, .int (i : Int)] ∧ SqL K H a (ns.map V.int) ∧ ∀ c : Int, Q (.int c) H
theorem ok_cell_at {f : Addr} {fd : FuncData} (F : Fun K "_law_cell_at" "_law_cell_at" s_cell_at f fd) (B : Bi mg) : FnOk P w K mg base CX0 1 f fd ["_law_script", "_law_k"] (spCellAt K) := by
  refine F.ok sc_cell_at (fun vs H Q E h => ?_) (fun cdv A outer s H vs Q E hr h => ?_)
  · obtain ⟨a, ns, i, rfl, _⟩ := h
    rfl
  · obtain ⟨a, ns, i, rfl, hS, q⟩ := h
    refine ⟨_, (pss_cons (ps_if (pt_cmpR op_lt (pv 1) (pe_callB call_lnL (by rfl) B.len (by decide +kernel) (pa_cons (pv 0) pa_nil)) (nomark _)) (pss_one (ps_ret (pe_ix ix_list (pv 0) (pv 1) (fun _ _ => rfl)))) pss_nil)
 (pss_one (ps_ret pe_int))), ?_⟩
    walk_at "wp"
    refine ⟨_, hS, ite2 (fun h => ?_) (fun h => q _)⟩
    have hi : i < ns.length := by have := of_decide_eq_true h; rw [List.length_map] at this; omega
    exact ⟨_, _, hS, atI_map (by omega) (by rw [Int.toNat_natCast]; exact List.getElem?_eq_getElem hi), q _⟩
end
end Bk

namespace Bk
open PySem PySem.Spec PyProof.Rows L2
local macro_rules | `(tactic| walk_at "wp") => `(tactic| try simp only [rIsB_b, rNotB_b, tFmtO, tJs, tOst, tCallS, WE, tRaise2, rOne_i, rSorD_r, tDNewK, Int.zero_add, tNever, tFor_eq, tLc_eq, iList, iTup, iRng1_eq, rRng1_i, iRng2_eq, rRng2_i, iEnum_eq, rEnum_r, iZip_eq, rZip_r, tSl, tPart, tNoPart, rSlL_r, rCat_r, rIn_r, rNin_r, rRepr_r, iRevR, rMin_r, rShr_i, rOdd_i, rSetL_r, gSub, rRg1_i, rRg2_i, rInr_r, tAug, ipI_ii, tLstRg, tRg1, tRg2, gTup_r, gUnl_r, rInt1_b, rInt1_i, rRep_r, tStep_r, scal, tSeq, tNext, tAsg, tRet, tRetN, tIfS, tDrop, tCB, tCons, tNil, tVar, tOp, tUn, tC, rU_i, rI_ii, rI0_ii, rEq, rNe, tTest, tB, tAnd, tOr, tNot, tAndV, tOrV, tNotV, tIf, tChain, tLst, tTup, tBM, tBM0, rAppend_r, rIxL_r, rIxT_r, rMx_ii, rMn_ii, rLnL_r, rLnT_r, rIsD_int, rIsD_bool, rIsD_list, rIsD_tuple, tCall, gName, gNil_n, gCons_c, cxK, L2.start, List.map, List.replicate, List.length_cons, List.length_nil, List.cons_append, List.nil_append, List.append_nil, List.getElem?_cons_zero, List.getElem?_cons_succ, Option.some.injEq, exists_eq_left', exists_eq_left, V.int.injEq, V.bl.injEq, V.str.injEq, V.ref.injEq, List.cons.injEq, and_true, true_and, and_self, List.set, wipe, rAll_r, rSum_r, reduceCtorEq, decide_true, decide_false, reduceIte, ite_true, ite_false, if_true, if_false, Bool.false_eq_true, Bool.not_true, Bool.not_false])
local macro_rules | `(tactic| walk_at "shaped") => `(tactic| (simp only [SeqAt.shaped, PyData.canLay0, PyData.canLayAll0, PyData.depth, PyData.depthAll]; rfl))
local macro_rules | `(tactic| walk_at "lay") => `(tactic| (simp only [PyData.canLay0, PyData.canLayAll0]; rfl))
section
variable {P : Program} {w : World} {K : PySem.W.Frag} {mg : Str → Option Value} {base : Heap}
abbrev s_cNoBakery : Stmt := top 2
theorem sc_nb : NdefX.NScope ["self", "good", "day", "__class__"] ["self", "good", "day"] ["__class__"] (defScope (clsM s_cNoBakery 0)) := NdefX.nscope_by (by decide +kernel)
theorem ok_nb {fI C cc cda : Addr} {oc dV kV dc pm ct : Value} {od an : Option Addr} {osl : Array (Option Value)} (lk : K.lookup fI = some ⟨oc, od, .func (PySem.W.ksFn "__init__" "NoBakery.__init__" (defArgs (clsM s_cNoBakery 0)) (defBody (clsM s_cNoBakery 0)) (defScope (clsM s_cNoBakery 0)) dV kV dc pm an (.ref cda) ct cc), osl⟩)
    (hcd : PySem.W.codeIn K (.ref cda) "NoBakery.__init__" = true) (T : OexC K C) (U : SupC P K C cc cda) (n1 : PySem.W.findIn K (.ref C) "good" = some none) (n2 : PySem.W.findIn K (.ref C) "day" = some none) :
    FnOk P w K mg base CX0 1 fI (PySem.W.ksFn "__init__" "NoBakery.__init__" (defArgs (clsM s_cNoBakery 0)) (defBody (clsM s_cNoBakery 0)) (defScope (clsM s_cNoBakery 0)) dV kV dc pm an (.ref cda) ct cc) ["self", "good", "day"] (spInit2 K C "good" "day") := by
  refine fn_sup lk hcd T U sc_nb rfl rfl (fun vs H Q E h => ?_) (fun A outer s H vs Q E h => ?_)
  · obtain ⟨a, u, v, rfl, _⟩ := h
    rfl
  · obtain ⟨a, u, v, rfl, hu, hv, ha, q⟩ := h
    refine ⟨a, [u, v], _, _, rfl, ha, pa_cons (pe_joined (PJ.cons pe_str (PJ.cons (pe_fmtO (pv 1)) (PJ.cons pe_str (PJ.cons (pe_fmtO (pv 2)) (PJ.cons pe_str PJ.nil)))))) pa_nil, pss_cons (ps_ost (pv 0) (pv 1)) (pss_one (ps_ost (pv 0) (pv 2))), ?_⟩
    walk_at "wp"
    have l0 : (Str.empty : Str).length = 0 := by decide +kernel
    have l1 : (Str.ofString "no bakery (good ").length = 16 := by decide +kernel
    have l2 : (Str.ofString ", day ").length = 6 := by decide +kernel
    have l3 : (Str.ofString ")").length = 1 := by decide +kernel
    refine ⟨by simp only [strLen_append, l0, l1]; rw [sizeLine_eq]; omega, u, rfl, hu, fun y hy => ⟨by simp only [strLen_append, l0, l1]; rw [sizeLine_eq]; omega, by simp only [strLen_append, l0, l1, l2]; rw [sizeLine_eq]; omega, v, rfl, hv, fun y1 hy1 => ⟨by simp only [strLen_append, l0, l1, l2]; rw [sizeLine_eq]; omega, by simp only [strLen_append, l0, l1, l2, l3]; rw [sizeLine_eq]; omega, by decide, u, rfl, .ref a, rfl, a, C, rfl, T, n1, .inl ⟨ha, fun dx hdx hne => ?_⟩⟩⟩⟩
    refine ⟨v, rfl, .ref a, rfl, a, C, rfl, T, n2, .inr ⟨dx, _, upd_same, by rw [upd_ne hne, upd_same], by show 1 ≤ 900; decide, ?_⟩⟩
    exact q dx hdx hne
abbrev s_cTooMuch : Stmt := top 4
theorem sc_tmu : NdefX.NScope ["self", "first", "last", "__class__"] ["self", "first", "last"] ["__class__"] (defScope (clsM s_cTooMuch 0)) := NdefX.nscope_by (by decide +kernel)
theorem ok_tmu {fI C cc cda : Addr} {oc dV kV dc pm ct : Value} {od an : Option Addr} {osl : Array (Option Value)} (lk : K.lookup fI = some ⟨oc, od, .func (PySem.W.ksFn "__init__" "TooMuch.__init__" (defArgs (clsM s_cTooMuch 0)) (defBody (clsM s_cTooMuch 0)) (defScope (clsM s_cTooMuch 0)) dV kV dc pm an (.ref cda) ct cc), osl⟩)
    (hcd : PySem.W.codeIn K (.ref cda) "TooMuch.__init__" = true) (T : OexC K C) (U : SupC P K C cc cda) (n1 : PySem.W.findIn K (.ref C) "first" = some none) (n2 : PySem.W.findIn K (.ref C) "last" = some none) :
    FnOk P w K mg base CX0 1 fI (PySem.W.ksFn "__init__" "TooMuch.__init__" (defArgs (clsM s_cTooMuch 0)) (defBody (clsM s_cTooMuch 0)) (defScope (clsM s_cTooMuch 0)) dV kV dc pm an (.ref cda) ct cc) ["self", "first", "last"] (spInit2 K C "first" "last") := by
  refine fn_sup lk hcd T U sc_tmu rfl rfl (fun vs H Q E h => ?_) (fun A outer s H vs Q E h => ?_)
  · obtain ⟨a, u, v, rfl, _⟩ := h
    rfl
  · obtain ⟨a, u, v, rfl, hu, hv, ha, q⟩ := h
    refine ⟨a, [u, v], _, _, rfl, ha, pa_cons (pe_joined (PJ.cons pe_str (PJ.cons (pe_fmtO (pv 1)) (PJ.cons pe_str (PJ.cons (pe_fmtO (pv 2)) (PJ.cons pe_str PJ.nil)))))) pa_nil, pss_cons (ps_ost (pv 0) (pv 1)) (pss_one (ps_ost (pv 0) (pv 2))), ?_⟩
    walk_at "wp"
    have l0 : (Str.empty : Str).length = 0 := by decide +kernel
    have l1 : (Str.ofString "days ").length = 5 := by decide +kernel
    have l2 : (Str.ofString " to ").length = 4 := by decide +kernel
    have l3 : (Str.ofString " want too much").length = 14 := by decide +kernel
    refine ⟨by simp only [strLen_append, l0, l1]; rw [sizeLine_eq]; omega, u, rfl, hu, fun y hy => ⟨by simp only [strLen_append, l0, l1]; rw [sizeLine_eq]; omega, by simp only [strLen_append, l0, l1, l2]; rw [sizeLine_eq]; omega, v, rfl, hv, fun y1 hy1 => ⟨by simp only [strLen_append, l0, l1, l2]; rw [sizeLine_eq]; omega, by simp only [strLen_append, l0, l1, l2, l3]; rw [sizeLine_eq]; omega, by decide, u, rfl, .ref a, rfl, a, C, rfl, T, n1, .inl ⟨ha, fun dx hdx hne => ?_⟩⟩⟩⟩
    refine ⟨v, rfl, .ref a, rfl, a, C, rfl, T, n2, .inr ⟨dx, _, upd_same, by rw [upd_ne hne, upd_same], by show 1 ≤ 900; decide, ?_⟩⟩
    exact q dx hdx hne
abbrev s_cNoDoughs : Stmt := top 3
theorem sc_ndo : NdefX.NScope ["self", "day", "__class__"] ["self", "day"] ["__class__"] (defScope (clsM s_cNoDoughs 0)) := NdefX.nscope_by (by decide +kernel)
theorem ok_ndo {fI C cc cda : Addr} {oc dV kV dc pm ct : Value} {od an : Option Addr} {osl : Array (Option Value)} (lk : K.lookup fI = some ⟨oc, od, .func (PySem.W.ksFn "__init__" "NoDoughs.__init__" (defArgs (clsM s_cNoDoughs 0)) (defBody (clsM s_cNoDoughs 0)) (defScope (clsM s_cNoDoughs 0)) dV kV dc pm an (.ref cda) ct cc), osl⟩)
    (hcd : PySem.W.codeIn K (.ref cda) "NoDoughs.__init__" = true) (T : OexC K C) (U : SupC P K C cc cda) (n1 : PySem.W.findIn K (.ref C) "day" = some none) :
    FnOk P w K mg base CX0 1 fI (PySem.W.ksFn "__init__" "NoDoughs.__init__" (defArgs (clsM s_cNoDoughs 0)) (defBody (clsM s_cNoDoughs 0)) (defScope (clsM s_cNoDoughs 0)) dV kV dc pm an (.ref cda) ct cc) ["self", "day"] (spInit1 K C "day") := by
  refine fn_sup lk hcd T U sc_ndo rfl rfl (fun vs H Q E h => ?_) (fun A outer s H vs Q E h => ?_)
  · obtain ⟨a, u, rfl, _⟩ := h
    rfl
  · obtain ⟨a, u, rfl, hu, ha, q⟩ := h
    refine ⟨a, [u], _, _, rfl, ha, pa_cons (pe_joined (PJ.cons pe_str (PJ.cons (pe_fmtO (pv 1)) (PJ.cons pe_str PJ.nil)))) pa_nil, pss_one (ps_ost (pv 0) (pv 1)), ?_⟩
    walk_at "wp"
    have l0 : (Str.empty : Str).length = 0 := by decide +kernel
    have l1 : (Str.ofString "no doughs (day ").length = 15 := by decide +kernel
    have l2 : (Str.ofString ")").length = 1 := by decide +kernel
    refine ⟨by simp only [strLen_append, l0, l1]; rw [sizeLine_eq]; omega, u, rfl, hu, fun y hy => ⟨by simp only [strLen_append, l0, l1]; rw [sizeLine_eq]; omega, by simp only [strLen_append, l0, l1, l2]; rw [sizeLine_eq]; omega, by decide, u, rfl, .ref a, rfl, a, C, rfl, T, n1, .inl ⟨ha, fun dx hdx hne => ?_⟩⟩⟩
    exact q dx hdx hne
abbrev s_cNoText : Stmt := top 5
theorem sc_ntx : NdefX.NScope ["self", "row", "__class__"] ["self", "row"] ["__class__"] (defScope (clsM s_cNoText 0)) := NdefX.nscope_by (by decide +kernel)
theorem ok_ntx {fI C cc cda : Addr} {oc dV kV dc pm ct : Value} {od an : Option Addr} {osl : Array (Option Value)} (lk : K.lookup fI = some ⟨oc, od, .func (PySem.W.ksFn "__init__" "NoText.__init__" (defArgs (clsM s_cNoText 0)) (defBody (clsM s_cNoText 0)) (defScope (clsM s_cNoText 0)) dV kV dc pm an (.ref cda) ct cc), osl⟩)
    (hcd : PySem.W.codeIn K (.ref cda) "NoText.__init__" = true) (T : OexC K C) (U : SupC P K C cc cda) (n1 : PySem.W.findIn K (.ref C) "row" = some none) :
    FnOk P w K mg base CX0 1 fI (PySem.W.ksFn "__init__" "NoText.__init__" (defArgs (clsM s_cNoText 0)) (defBody (clsM s_cNoText 0)) (defScope (clsM s_cNoText 0)) dV kV dc pm an (.ref cda) ct cc) ["self", "row"] (spInit1 K C "row") := by
  refine fn_sup lk hcd T U sc_ntx rfl rfl (fun vs H Q E h => ?_) (fun A outer s H vs Q E h => ?_)
  · obtain ⟨a, u, rfl, _⟩ := h
    rfl
  · obtain ⟨a, u, rfl, hu, ha, q⟩ := h
    refine ⟨a, [u], _, _, rfl, ha, pa_cons (pe_joined (PJ.cons pe_str (PJ.cons (pe_fmtO (pv 1)) (PJ.cons pe_str PJ.nil)))) pa_nil, pss_one (ps_ost (pv 0) (pv 1)), ?_⟩
    walk_at "wp"
    have l0 : (Str.empty : Str).length = 0 := by decide +kernel
    have l1 : (Str.ofString "row ").length = 4 := by decide +kernel
    have l2 : (Str.ofString " can't be read").length = 14 := by decide +kernel
    refine ⟨by simp only [strLen_append, l0, l1]; rw [sizeLine_eq]; omega, u, rfl, hu, fun y hy => ⟨by simp only [strLen_append, l0, l1]; rw [sizeLine_eq]; omega, by simp only [strLen_append, l0, l1, l2]; rw [sizeLine_eq]; omega, by decide, u, rfl, .ref a, rfl, a, C, rfl, T, n1, .inl ⟨ha, fun dx hdx hne => ?_⟩⟩⟩
    exact q dx hdx hne
end
end Bk

namespace Bk
open PySem PySem.Spec PyProof.Rows L2
local macro_rules | `(tactic| walk_at "wp") => `(tactic| try simp only [tMk1, tMk2, tMk1f, rReprM_r, rIsX_r, rIsXT_r, tXk, tM1, rNinr_r, rNeN_r, rCatL_r, rSlT_r, rListOf_r, rIsB_b, rNotB_b, tFmtO, tJs, tOst, tCallS, WE, tRaise2, rOne_i, rSorD_r, tDNewK, Int.zero_add, tNever, tFor_eq, tLc_eq, iList, iTup, iRng1_eq, rRng1_i, iRng2_eq, rRng2_i, iEnum_eq, rEnum_r, iZip_eq, rZip_r, tSl, tPart, tNoPart, rSlL_r, rCat_r, rIn_r, rNin_r, rRepr_r, iRevR, rMin_r, rShr_i, rOdd_i, rSetL_r, gSub, rRg1_i, rRg2_i, rInr_r, tAug, ipI_ii, tLstRg, tRg1, tRg2, gTup_r, gUnl_r, rInt1_b, rInt1_i, rRep_r, tStep_r, scal, tSeq, tNext, tAsg, tRet, tRetN, tIfS, tDrop, tCB, tCons, tNil, tVar, tOp, tUn, tC, rU_i, rI_ii, rI0_ii, rEq, rNe, tTest, tB, tAnd, tOr, tNot, tAndV, tOrV, tNotV, tIf, tChain, tLst, tTup, tBM, tBM0, rAppend_r, rIxL_r, rIxT_r, rMx_ii, rMn_ii, rLnL_r, rLnT_r, rIsD_int, rIsD_bool, rIsD_list, rIsD_tuple, tCall, gName, gNil_n, gCons_c, cxK, L2.start, List.map, List.replicate, List.length_cons, List.length_nil, List.cons_append, List.nil_append, List.append_nil, List.getElem?_cons_zero, List.getElem?_cons_succ, Option.some.injEq, exists_eq_left', exists_eq_left, V.int.injEq, V.bl.injEq, V.str.injEq, V.ref.injEq, List.cons.injEq, and_true, true_and, and_self, List.set, wipe, rAll_r, rSum_r, reduceCtorEq, decide_true, decide_false, reduceIte, ite_true, ite_false, if_true, if_false, Bool.false_eq_true, Bool.not_true, Bool.not_false])
local macro_rules | `(tactic| walk_at "shaped") => `(tactic| (simp only [tMk1, tMk2, tMk1f, SeqAt.shaped, PyData.canLay0, PyData.canLayAll0, PyData.depth, PyData.depthAll]; rfl))
local macro_rules | `(tactic| walk_at "lay") => `(tactic| (simp only [tMk1, tMk2, tMk1f, PyData.canLay0, PyData.canLayAll0]; rfl))
section
variable {P : Program} {w : World} {K : PySem.W.Frag} {mg : Str → Option Value} {base : Heap}
abbrev s_kinds : Stmt := top 20
theorem sc_kinds : FnScope ["_law_e", "_law_some"] ["_law_e"] (defScope s_kinds) := ⟨rfl, rfl, rfl, by decide +kernel, rfl, by decide +kernel, by decide +kernel⟩
def spKinds (K : PySem.W.Frag) (cs : List Addr) : Sp := fun vs H Q _ => ∃ (a C : Addr) (d : Option Addr) (ks : List Bool), vs = [.ref a] ∧ H a = some (ExK (.ref C) d a) ∧ DictIn H d ∧ Kinds K C cs ks ∧ ks.length = 16 ∧ ∀ H' p, Same H H' → H' p = some (.lst ((ks.take 15).map V.bl)) → Q (.ref p) H'
theorem sixteen {ks : List Bool} (h : ks.length = 16) : ∃ k0 k1 k2 k3 k4 k5 k6 k7 k8 k9 k10 k11 k12 k13 k14 kb, ks = [k0, k1, k2, k3, k4, k5, k6, k7, k8, k9, k10, k11, k12, k13, k14, kb] := by
  match ks, h with
  | [k0, k1, k2, k3, k4, k5, k6, k7, k8, k9, k10, k11, k12, k13, k14, kb], _ => exact ⟨k0, k1, k2, k3, k4, k5, k6, k7, k8, k9, k10, k11, k12, k13, k14, kb, rfl⟩
theorem ok_kinds {f : Addr} {fd : FuncData} {C0 C1 C2 C3 C4 C5 C6 C7 C8 C9 C10 C11 C12 C13 C14 CB : Addr} (F : Fun K "_law_kinds" "_law_kinds" s_kinds f fd) (B : Bi mg) (M_NoBack : mg "NoBack" = some (.ref C0)) (M_NoBakery : mg "NoBakery" = some (.ref C1)) (M_NoDay : mg "NoDay" = some (.ref C2)) (M_NoDays : mg "NoDays" = some (.ref C3)) (M_NoDoughs : mg "NoDoughs" = some (.ref C4)) (M_NoGood : mg "NoGood" = some (.ref C5)) (M_NoName : mg "NoName" = some (.ref C6)) (M_NoNumber : mg "NoNumber" = some (.ref C7)) (M_NoPart : mg "NoPart" = some (.ref C8)) (M_NoRow : mg "NoRow" = some (.ref C9)) (M_NoText : mg "NoText" = some (.ref C10)) (M_NotPlain : mg "NotPlain" = some (.ref C11)) (M_NotSteady : mg "NotSteady" = some (.ref C12)) (M_TooMany : mg "TooMany" = some (.ref C13)) (M_TooMuch : mg "TooMuch" = some (.ref C14)) : FnOk P w K mg base CX0 1 f fd ["_law_e"] (spKinds K [C0, C1, C2, C3, C4, C5, C6, C7, C8, C9, C10, C11, C12, C13, C14, CB]) := by
  refine F.ok sc_kinds (fun vs H Q E h => ?_) (fun cdv A outer s H vs Q E hr h => ?_)
  · obtain ⟨_, _, _, _, rfl, _⟩ := h
    rfl
  · obtain ⟨a, C, d, ks, rfl, ha, hdi, T, hkl, q⟩ := h
    refine ⟨_, (pss_cons (ps_set (i := 1) sc_kinds.nd rfl (Or.inl rfl) (pe_lst (pa_cons (pe_callB call_isX (by rfl) B.isinstance (by decide +kernel) (pa_cons (pv 0) (pa_cons (pe_globR (by rfl) M_NoBack) pa_nil))) (pa_cons (pe_callB call_isX (by rfl) B.isinstance (by decide +kernel) (pa_cons (pv 0) (pa_cons (pe_globR (by rfl) M_NoBakery) pa_nil))) (pa_cons (pe_callB call_isX (by rfl) B.isinstance (by decide +kernel) (pa_cons (pv 0) (pa_cons (pe_globR (by rfl) M_NoDay) pa_nil))) (pa_cons (pe_callB call_isX (by rfl) B.isinstance (by decide +kernel) (pa_cons (pv 0) (pa_cons (pe_globR (by rfl) M_NoDays) pa_nil))) pa_nil))))))
 (pss_cons (ps_set (i := 1) sc_kinds.nd rfl (Or.inl rfl) (pe_op op_cat (pv 1) (pe_lst (pa_cons (pe_callB call_isX (by rfl) B.isinstance (by decide +kernel) (pa_cons (pv 0) (pa_cons (pe_globR (by rfl) M_NoDoughs) pa_nil))) (pa_cons (pe_callB call_isX (by rfl) B.isinstance (by decide +kernel) (pa_cons (pv 0) (pa_cons (pe_globR (by rfl) M_NoGood) pa_nil))) (pa_cons (pe_callB call_isX (by rfl) B.isinstance (by decide +kernel) (pa_cons (pv 0) (pa_cons (pe_globR (by rfl) M_NoName) pa_nil))) (pa_cons (pe_callB call_isX (by rfl) B.isinstance (by decide +kernel) (pa_cons (pv 0) (pa_cons (pe_globR (by rfl) M_NoNumber) pa_nil))) pa_nil)))))))
 (pss_cons (ps_set (i := 1) sc_kinds.nd rfl (Or.inl rfl) (pe_op op_cat (pv 1) (pe_lst (pa_cons (pe_callB call_isX (by rfl) B.isinstance (by decide +kernel) (pa_cons (pv 0) (pa_cons (pe_globR (by rfl) M_NoPart) pa_nil))) (pa_cons (pe_callB call_isX (by rfl) B.isinstance (by decide +kernel) (pa_cons (pv 0) (pa_cons (pe_globR (by rfl) M_NoRow) pa_nil))) (pa_cons (pe_callB call_isX (by rfl) B.isinstance (by decide +kernel) (pa_cons (pv 0) (pa_cons (pe_globR (by rfl) M_NoText) pa_nil))) (pa_cons (pe_callB call_isX (by rfl) B.isinstance (by decide +kernel) (pa_cons (pv 0) (pa_cons (pe_globR (by rfl) M_NotPlain) pa_nil))) pa_nil)))))))
 (pss_cons (ps_set (i := 1) sc_kinds.nd rfl (Or.inl rfl) (pe_op op_cat (pv 1) (pe_lst (pa_cons (pe_callB call_isX (by rfl) B.isinstance (by decide +kernel) (pa_cons (pv 0) (pa_cons (pe_globR (by rfl) M_NotSteady) pa_nil))) (pa_cons (pe_callB call_isX (by rfl) B.isinstance (by decide +kernel) (pa_cons (pv 0) (pa_cons (pe_globR (by rfl) M_TooMany) pa_nil))) (pa_cons (pe_callB call_isX (by rfl) B.isinstance (by decide +kernel) (pa_cons (pv 0) (pa_cons (pe_globR (by rfl) M_TooMuch) pa_nil))) pa_nil))))))
 (pss_one (ps_ret (pv 1))))))), ?_⟩
    obtain ⟨k0, k1, k2, k3, k4, k5, k6, k7, k8, k9, k10, k11, k12, k13, k14, kb, rfl⟩ := sixteen hkl
    obtain ⟨_, e0, t0⟩ := T.each 0 C0 rfl
    cases e0
    obtain ⟨_, e1, t1⟩ := T.each 1 C1 rfl
    cases e1
    obtain ⟨_, e2, t2⟩ := T.each 2 C2 rfl
    cases e2
    obtain ⟨_, e3, t3⟩ := T.each 3 C3 rfl
    cases e3
    obtain ⟨_, e4, t4⟩ := T.each 4 C4 rfl
    cases e4
    obtain ⟨_, e5, t5⟩ := T.each 5 C5 rfl
    cases e5
    obtain ⟨_, e6, t6⟩ := T.each 6 C6 rfl
    cases e6
    obtain ⟨_, e7, t7⟩ := T.each 7 C7 rfl
    cases e7
    obtain ⟨_, e8, t8⟩ := T.each 8 C8 rfl
    cases e8
    obtain ⟨_, e9, t9⟩ := T.each 9 C9 rfl
    cases e9
    obtain ⟨_, e10, t10⟩ := T.each 10 C10 rfl
    cases e10
    obtain ⟨_, e11, t11⟩ := T.each 11 C11 rfl
    cases e11
    obtain ⟨_, e12, t12⟩ := T.each 12 C12 rfl
    cases e12
    obtain ⟨_, e13, t13⟩ := T.each 13 C13 rfl
    cases e13
    obtain ⟨_, e14, t14⟩ := T.each 14 C14 rfl
    cases e14
    walk_at "wp"
    refine ⟨C, d, .ref C0, _, ha, hdi, T.T, rfl, fun _ z => z, t0, C, d, .ref C1, _, ha, hdi, T.T, rfl, fun _ z => z, t1, C, d, .ref C2, _, ha, hdi, T.T, rfl, fun _ z => z, t2, C, d, .ref C3, _, ha, hdi, T.T, rfl, fun _ z => z, t3, sz100 (by decide), fun q0 h0 => ?_⟩
    have Sa0 := same_upd (o := .lst [V.bl k0, V.bl k1, V.bl k2, V.bl k3]) h0
    have Ea0 : upd H q0 (.lst [V.bl k0, V.bl k1, V.bl k2, V.bl k3]) q0 = some (.lst [V.bl k0, V.bl k1, V.bl k2, V.bl k3]) := upd_same
    generalize upd H q0 (.lst [V.bl k0, V.bl k1, V.bl k2, V.bl k3]) = Ha0 at Sa0 Ea0 ⊢
    have ST0 := Sa0
    have ha1 := ST0 _ _ ha
    have hdi1 := hdi.same ST0
    walk_at "wp"
    refine ⟨C, d, .ref C4, _, ha1, hdi1, T.T, rfl, fun _ z => z, t4, C, d, .ref C5, _, ha1, hdi1, T.T, rfl, fun _ z => z, t5, C, d, .ref C6, _, ha1, hdi1, T.T, rfl, fun _ z => z, t6, C, d, .ref C7, _, ha1, hdi1, T.T, rfl, fun _ z => z, t7, sz100 (by decide), fun q1 h1 => ?_⟩
    have Sa1 := same_upd (o := .lst [V.bl k4, V.bl k5, V.bl k6, V.bl k7]) h1
    have Ea1 : upd Ha0 q1 (.lst [V.bl k4, V.bl k5, V.bl k6, V.bl k7]) q1 = some (.lst [V.bl k4, V.bl k5, V.bl k6, V.bl k7]) := upd_same
    generalize upd Ha0 q1 (.lst [V.bl k4, V.bl k5, V.bl k6, V.bl k7]) = Ha1 at Sa1 Ea1 ⊢
    refine ⟨_, _, Sa1 _ _ Ea0, Ea1, sz100 (by show 4 + 4 ≤ 100000; decide), fun r1 g1 => ?_⟩
    have Sb1 := same_upd (o := .lst ([V.bl k0, V.bl k1, V.bl k2, V.bl k3] ++ [V.bl k4, V.bl k5, V.bl k6, V.bl k7])) g1
    have Eb1 : upd Ha1 r1 (.lst ([V.bl k0, V.bl k1, V.bl k2, V.bl k3] ++ [V.bl k4, V.bl k5, V.bl k6, V.bl k7])) r1 = some (.lst [V.bl k0, V.bl k1, V.bl k2, V.bl k3, V.bl k4, V.bl k5, V.bl k6, V.bl k7]) := upd_same
    generalize upd Ha1 r1 (.lst ([V.bl k0, V.bl k1, V.bl k2, V.bl k3] ++ [V.bl k4, V.bl k5, V.bl k6, V.bl k7])) = Hb1 at Sb1 Eb1 ⊢
    have ST1 := ST0.trans (Sa1.trans Sb1)
    have ha2 := ST1 _ _ ha
    have hdi2 := hdi.same ST1
    walk_at "wp"
    refine ⟨C, d, .ref C8, _, ha2, hdi2, T.T, rfl, fun _ z => z, t8, C, d, .ref C9, _, ha2, hdi2, T.T, rfl, fun _ z => z, t9, C, d, .ref C10, _, ha2, hdi2, T.T, rfl, fun _ z => z, t10, C, d, .ref C11, _, ha2, hdi2, T.T, rfl, fun _ z => z, t11, sz100 (by decide), fun q2 h2 => ?_⟩
    have Sa2 := same_upd (o := .lst [V.bl k8, V.bl k9, V.bl k10, V.bl k11]) h2
    have Ea2 : upd Hb1 q2 (.lst [V.bl k8, V.bl k9, V.bl k10, V.bl k11]) q2 = some (.lst [V.bl k8, V.bl k9, V.bl k10, V.bl k11]) := upd_same
    generalize upd Hb1 q2 (.lst [V.bl k8, V.bl k9, V.bl k10, V.bl k11]) = Ha2 at Sa2 Ea2 ⊢
    refine ⟨_, _, Sa2 _ _ Eb1, Ea2, sz100 (by show 8 + 4 ≤ 100000; decide), fun r2 g2 => ?_⟩
    have Sb2 := same_upd (o := .lst ([V.bl k0, V.bl k1, V.bl k2, V.bl k3, V.bl k4, V.bl k5, V.bl k6, V.bl k7] ++ [V.bl k8, V.bl k9, V.bl k10, V.bl k11])) g2
    have Eb2 : upd Ha2 r2 (.lst ([V.bl k0, V.bl k1, V.bl k2, V.bl k3, V.bl k4, V.bl k5, V.bl k6, V.bl k7] ++ [V.bl k8, V.bl k9, V.bl k10, V.bl k11])) r2 = some (.lst [V.bl k0, V.bl k1, V.bl k2, V.bl k3, V.bl k4, V.bl k5, V.bl k6, V.bl k7, V.bl k8, V.bl k9, V.bl k10, V.bl k11]) := upd_same
    generalize upd Ha2 r2 (.lst ([V.bl k0, V.bl k1, V.bl k2, V.bl k3, V.bl k4, V.bl k5, V.bl k6, V.bl k7] ++ [V.bl k8, V.bl k9, V.bl k10, V.bl k11])) = Hb2 at Sb2 Eb2 ⊢
    have ST2 := ST1.trans (Sa2.trans Sb2)
    have ha3 := ST2 _ _ ha
    have hdi3 := hdi.same ST2
    walk_at "wp"
    refine ⟨C, d, .ref C12, _, ha3, hdi3, T.T, rfl, fun _ z => z, t12, C, d, .ref C13, _, ha3, hdi3, T.T, rfl, fun _ z => z, t13, C, d, .ref C14, _, ha3, hdi3, T.T, rfl, fun _ z => z, t14, sz100 (by decide), fun q3 h3 => ?_⟩
    have Sa3 := same_upd (o := .lst [V.bl k12, V.bl k13, V.bl k14]) h3
    have Ea3 : upd Hb2 q3 (.lst [V.bl k12, V.bl k13, V.bl k14]) q3 = some (.lst [V.bl k12, V.bl k13, V.bl k14]) := upd_same
    generalize upd Hb2 q3 (.lst [V.bl k12, V.bl k13, V.bl k14]) = Ha3 at Sa3 Ea3 ⊢
    refine ⟨_, _, Sa3 _ _ Eb2, Ea3, sz100 (by show 12 + 3 ≤ 100000; decide), fun r3 g3 => ?_⟩
    have Sb3 := same_upd (o := .lst ([V.bl k0, V.bl k1, V.bl k2, V.bl k3, V.bl k4, V.bl k5, V.bl k6, V.bl k7, V.bl k8, V.bl k9, V.bl k10, V.bl k11] ++ [V.bl k12, V.bl k13, V.bl k14])) g3
    have Eb3 : upd Ha3 r3 (.lst ([V.bl k0, V.bl k1, V.bl k2, V.bl k3, V.bl k4, V.bl k5, V.bl k6, V.bl k7, V.bl k8, V.bl k9, V.bl k10, V.bl k11] ++ [V.bl k12, V.bl k13, V.bl k14])) r3 = some (.lst [V.bl k0, V.bl k1, V.bl k2, V.bl k3, V.bl k4, V.bl k5, V.bl k6, V.bl k7, V.bl k8, V.bl k9, V.bl k10, V.bl k11, V.bl k12, V.bl k13, V.bl k14]) := upd_same
    generalize upd Ha3 r3 (.lst ([V.bl k0, V.bl k1, V.bl k2, V.bl k3, V.bl k4, V.bl k5, V.bl k6, V.bl k7, V.bl k8, V.bl k9, V.bl k10, V.bl k11] ++ [V.bl k12, V.bl k13, V.bl k14])) = Hb3 at Sb3 Eb3 ⊢
    have ST3 := ST2.trans (Sa3.trans Sb3)
    exact q _ _ ST3 Eb3
abbrev s_all : Stmt := top 21
theorem sc_all : FnScope ["_law_one", "_law_other", "_law_row", "_law_last", "_law_text", "_law_found"] ["_law_one", "_law_other", "_law_row", "_law_last", "_law_text"] (defScope s_all) := ⟨rfl, rfl, rfl, by decide +kernel, rfl, by decide +kernel, by decide +kernel⟩
def AllE (cs : List Addr) (H : Hp) (p : Addr) (one other row last : V) : Prop := ∃ (as : List Addr) (dd : List (Option Addr)), H p = some (.lst (as.map V.ref)) ∧ as.length = 15 ∧ dd.length = 15 ∧ (∀ (i : Nat) a c d, as[i]? = some a → cs[i]? = some c → dd[i]? = some d → H a = some (ExK (.ref c) d a) ∧ DictIn H d) ∧ ∃ d1 d4 d10 d14, dd[1]? = some (some d1) ∧ dd[4]? = some (some d4) ∧ dd[10]? = some (some d10) ∧ dd[14]? = some (some d14) ∧ H d1 = some (.xd [("day", other), ("good", one)]) ∧ H d4 = some (.xd [("day", one)]) ∧ H d10 = some (.xd [("row", row)]) ∧ H d14 = some (.xd [("last", last), ("first", row)])
def spAll (K : PySem.W.Frag) (cs : List Addr) : Sp := fun vs H Q _ => ∃ (one other row last : V) (t : Str), vs = [one, other, row, last, .str t] ∧ smV one ∧ smV other ∧ smV row ∧ smV last ∧ ∀ H' p, Same H H' → AllE cs H' p one other row last → Q (.ref p) H'
theorem ok_all {f : Addr} {fd : FuncData} {C0 C1 C2 C3 C4 C5 C6 C7 C8 C9 C10 C11 C12 C13 C14 CB : Addr} (F : Fun K "_law_all" "_law_all" s_all f fd) (E1_NoBack : Err1 K mg "NoBack" C0) (E1_NoDay : Err1 K mg "NoDay" C2) (E1_NoDays : Err1 K mg "NoDays" C3) (E1_NoGood : Err1 K mg "NoGood" C5) (E1_NoName : Err1 K mg "NoName" C6) (E1_NoNumber : Err1 K mg "NoNumber" C7) (E1_NoPart : Err1 K mg "NoPart" C8) (E1_NoRow : Err1 K mg "NoRow" C9) (E1_NotPlain : Err1 K mg "NotPlain" C11) (E1_NotSteady : Err1 K mg "NotSteady" C12) (E1_TooMany : Err1 K mg "TooMany" C13) (NB_NoBakery : Err2 P w K mg base "NoBakery" C1 "good" "day") (NB_NoDoughs : Err1f P w K mg base "NoDoughs" C4 "day") (NB_NoText : Err1f P w K mg base "NoText" C10 "row") (NB_TooMuch : Err2 P w K mg base "TooMuch" C14 "first" "last") : FnOk P w K mg base CX0 3 f fd ["_law_one", "_law_other", "_law_row", "_law_last", "_law_text"] (spAll K [C0, C1, C2, C3, C4, C5, C6, C7, C8, C9, C10, C11, C12, C13, C14, CB]) := by
  refine F.ok sc_all (fun vs H Q E h => ?_) (fun cdv A outer s H vs Q E hr h => ?_)
  · obtain ⟨_, _, _, _, _, rfl, _⟩ := h
    rfl
  · obtain ⟨one, other, row, last, t, rfl, s1, s2, s3, s4, q⟩ := h
    refine ⟨_, (pss_cons (ps_set (i := 5) sc_all.nd rfl (Or.inl rfl) (pe_lst (pa_cons (pe_mk1 E1_NoBack (by rfl) (pv 4)) (pa_cons (pe_mk2 NB_NoBakery hr (by rfl) (pa_cons (pv 0) (pa_cons (pv 1) pa_nil))) (pa_cons (pe_mk1 E1_NoDay (by rfl) (pv 4)) (pa_cons (pe_mk1 E1_NoDays (by rfl) (pv 4)) (pa_cons (pe_mk1f NB_NoDoughs hr (by rfl) (pa_cons (pv 0) pa_nil)) (pa_cons (pe_mk1 E1_NoGood (by rfl) (pv 4)) (pa_cons (pe_mk1 E1_NoName (by rfl) (pv 4)) pa_nil)))))))))
 (pss_cons (ps_set (i := 5) sc_all.nd rfl (Or.inl rfl) (pe_op op_catL (pv 5) (pe_lst (pa_cons (pe_mk1 E1_NoNumber (by rfl) (pv 4)) (pa_cons (pe_mk1 E1_NoPart (by rfl) (pv 4)) (pa_cons (pe_mk1 E1_NoRow (by rfl) (pv 4)) (pa_cons (pe_mk1f NB_NoText hr (by rfl) (pa_cons (pv 2) pa_nil)) (pa_cons (pe_mk1 E1_NotPlain (by rfl) (pv 4)) (pa_cons (pe_mk1 E1_NotSteady (by rfl) (pv 4)) pa_nil)))))))))
 (pss_one (ps_ret (pe_op op_catL (pv 5) (pe_lst (pa_cons (pe_mk1 E1_TooMany (by rfl) (pv 4)) (pa_cons (pe_mk2 NB_TooMuch hr (by rfl) (pa_cons (pv 2) (pa_cons (pv 3) pa_nil))) pa_nil)))))))), ?_⟩
    walk_at "wp"
    intro a0 n0
    have Sx0 := same_upd (o := ExK (.ref C0) (none) a0) n0
    have Ex0 : upd H a0 (ExK (.ref C0) (none) a0) a0 = some (ExK (.ref C0) (none) a0) := upd_same
    generalize upd H a0 (ExK (.ref C0) (none) a0) = Hx0 at Sx0 Ex0 ⊢
    refine raise2_of s1 s2 fun d1 hd1 => ?_
    have Sd1 := same_upd (o := .xd [("day", other), ("good", one)]) hd1
    have Ed1 : upd Hx0 d1 (.xd [("day", other), ("good", one)]) d1 = some (.xd [("day", other), ("good", one)]) := upd_same
    generalize upd Hx0 d1 (.xd [("day", other), ("good", one)]) = Hd1 at Sd1 Ed1 ⊢
    intro a1 n1
    have Sx1 := same_upd (o := ExK (.ref C1) (some d1) a1) n1
    have Ex1 : upd Hd1 a1 (ExK (.ref C1) (some d1) a1) a1 = some (ExK (.ref C1) (some d1) a1) := upd_same
    generalize upd Hd1 a1 (ExK (.ref C1) (some d1) a1) = Hx1 at Sx1 Ex1 ⊢
    intro a2 n2
    have Sx2 := same_upd (o := ExK (.ref C2) (none) a2) n2
    have Ex2 : upd Hx1 a2 (ExK (.ref C2) (none) a2) a2 = some (ExK (.ref C2) (none) a2) := upd_same
    generalize upd Hx1 a2 (ExK (.ref C2) (none) a2) = Hx2 at Sx2 Ex2 ⊢
    intro a3 n3
    have Sx3 := same_upd (o := ExK (.ref C3) (none) a3) n3
    have Ex3 : upd Hx2 a3 (ExK (.ref C3) (none) a3) a3 = some (ExK (.ref C3) (none) a3) := upd_same
    generalize upd Hx2 a3 (ExK (.ref C3) (none) a3) = Hx3 at Sx3 Ex3 ⊢
    refine mk1f_of s1 fun d4 hd4 => ?_
    have Sd4 := same_upd (o := .xd [("day", one)]) hd4
    have Ed4 : upd Hx3 d4 (.xd [("day", one)]) d4 = some (.xd [("day", one)]) := upd_same
    generalize upd Hx3 d4 (.xd [("day", one)]) = Hd4 at Sd4 Ed4 ⊢
    intro a4 n4
    have Sx4 := same_upd (o := ExK (.ref C4) (some d4) a4) n4
    have Ex4 : upd Hd4 a4 (ExK (.ref C4) (some d4) a4) a4 = some (ExK (.ref C4) (some d4) a4) := upd_same
    generalize upd Hd4 a4 (ExK (.ref C4) (some d4) a4) = Hx4 at Sx4 Ex4 ⊢
    intro a5 n5
    have Sx5 := same_upd (o := ExK (.ref C5) (none) a5) n5
    have Ex5 : upd Hx4 a5 (ExK (.ref C5) (none) a5) a5 = some (ExK (.ref C5) (none) a5) := upd_same
    generalize upd Hx4 a5 (ExK (.ref C5) (none) a5) = Hx5 at Sx5 Ex5 ⊢
    intro a6 n6
    have Sx6 := same_upd (o := ExK (.ref C6) (none) a6) n6
    have Ex6 : upd Hx5 a6 (ExK (.ref C6) (none) a6) a6 = some (ExK (.ref C6) (none) a6) := upd_same
    generalize upd Hx5 a6 (ExK (.ref C6) (none) a6) = Hx6 at Sx6 Ex6 ⊢
    refine ⟨sz100 (by decide), fun p0 g0 => ?_⟩
    have Sp0 := same_upd (o := .lst [V.ref a0, V.ref a1, V.ref a2, V.ref a3, V.ref a4, V.ref a5, V.ref a6]) g0
    have Ep0 : upd Hx6 p0 (.lst [V.ref a0, V.ref a1, V.ref a2, V.ref a3, V.ref a4, V.ref a5, V.ref a6]) p0 = some (.lst [V.ref a0, V.ref a1, V.ref a2, V.ref a3, V.ref a4, V.ref a5, V.ref a6]) := upd_same
    generalize upd Hx6 p0 (.lst [V.ref a0, V.ref a1, V.ref a2, V.ref a3, V.ref a4, V.ref a5, V.ref a6]) = Hp0 at Sp0 Ep0 ⊢
    walk_at "wp"
    intro a7 n7
    have Sx7 := same_upd (o := ExK (.ref C7) (none) a7) n7
    have Ex7 : upd Hp0 a7 (ExK (.ref C7) (none) a7) a7 = some (ExK (.ref C7) (none) a7) := upd_same
    generalize upd Hp0 a7 (ExK (.ref C7) (none) a7) = Hx7 at Sx7 Ex7 ⊢
    intro a8 n8
    have Sx8 := same_upd (o := ExK (.ref C8) (none) a8) n8
    have Ex8 : upd Hx7 a8 (ExK (.ref C8) (none) a8) a8 = some (ExK (.ref C8) (none) a8) := upd_same
    generalize upd Hx7 a8 (ExK (.ref C8) (none) a8) = Hx8 at Sx8 Ex8 ⊢
    intro a9 n9
    have Sx9 := same_upd (o := ExK (.ref C9) (none) a9) n9
    have Ex9 : upd Hx8 a9 (ExK (.ref C9) (none) a9) a9 = some (ExK (.ref C9) (none) a9) := upd_same
    generalize upd Hx8 a9 (ExK (.ref C9) (none) a9) = Hx9 at Sx9 Ex9 ⊢
    refine mk1f_of s3 fun d10 hd10 => ?_
    have Sd10 := same_upd (o := .xd [("row", row)]) hd10
    have Ed10 : upd Hx9 d10 (.xd [("row", row)]) d10 = some (.xd [("row", row)]) := upd_same
    generalize upd Hx9 d10 (.xd [("row", row)]) = Hd10 at Sd10 Ed10 ⊢
    intro a10 n10
    have Sx10 := same_upd (o := ExK (.ref C10) (some d10) a10) n10
    have Ex10 : upd Hd10 a10 (ExK (.ref C10) (some d10) a10) a10 = some (ExK (.ref C10) (some d10) a10) := upd_same
    generalize upd Hd10 a10 (ExK (.ref C10) (some d10) a10) = Hx10 at Sx10 Ex10 ⊢
    intro a11 n11
    have Sx11 := same_upd (o := ExK (.ref C11) (none) a11) n11
    have Ex11 : upd Hx10 a11 (ExK (.ref C11) (none) a11) a11 = some (ExK (.ref C11) (none) a11) := upd_same
    generalize upd Hx10 a11 (ExK (.ref C11) (none) a11) = Hx11 at Sx11 Ex11 ⊢
    intro a12 n12
    have Sx12 := same_upd (o := ExK (.ref C12) (none) a12) n12
    have Ex12 : upd Hx11 a12 (ExK (.ref C12) (none) a12) a12 = some (ExK (.ref C12) (none) a12) := upd_same
    generalize upd Hx11 a12 (ExK (.ref C12) (none) a12) = Hx12 at Sx12 Ex12 ⊢
    refine ⟨sz100 (by decide), fun p1 g1 => ?_⟩
    have Sp1 := same_upd (o := .lst [V.ref a7, V.ref a8, V.ref a9, V.ref a10, V.ref a11, V.ref a12]) g1
    have Ep1 : upd Hx12 p1 (.lst [V.ref a7, V.ref a8, V.ref a9, V.ref a10, V.ref a11, V.ref a12]) p1 = some (.lst [V.ref a7, V.ref a8, V.ref a9, V.ref a10, V.ref a11, V.ref a12]) := upd_same
    generalize upd Hx12 p1 (.lst [V.ref a7, V.ref a8, V.ref a9, V.ref a10, V.ref a11, V.ref a12]) = Hp1 at Sp1 Ep1 ⊢
    refine ⟨_, _, SqL.of ((Sx7.trans (Sx8.trans (Sx9.trans (Sd10.trans (Sx10.trans (Sx11.trans (Sx12.trans Sp1))))))) _ _ Ep0), SqL.of Ep1, sz100 (by show 7 + 6 ≤ 100000; decide), fun c0 m0 => ?_⟩
    have Sc0 := same_upd (o := .lst ([V.ref a0, V.ref a1, V.ref a2, V.ref a3, V.ref a4, V.ref a5, V.ref a6] ++ [V.ref a7, V.ref a8, V.ref a9, V.ref a10, V.ref a11, V.ref a12])) m0
    have Ec0 : upd Hp1 c0 (.lst ([V.ref a0, V.ref a1, V.ref a2, V.ref a3, V.ref a4, V.ref a5, V.ref a6] ++ [V.ref a7, V.ref a8, V.ref a9, V.ref a10, V.ref a11, V.ref a12])) c0 = some (.lst [V.ref a0, V.ref a1, V.ref a2, V.ref a3, V.ref a4, V.ref a5, V.ref a6, V.ref a7, V.ref a8, V.ref a9, V.ref a10, V.ref a11, V.ref a12]) := upd_same
    generalize upd Hp1 c0 (.lst ([V.ref a0, V.ref a1, V.ref a2, V.ref a3, V.ref a4, V.ref a5, V.ref a6] ++ [V.ref a7, V.ref a8, V.ref a9, V.ref a10, V.ref a11, V.ref a12])) = Hc0 at Sc0 Ec0 ⊢
    walk_at "wp"
    intro a13 n13
    have Sx13 := same_upd (o := ExK (.ref C13) (none) a13) n13
    have Ex13 : upd Hc0 a13 (ExK (.ref C13) (none) a13) a13 = some (ExK (.ref C13) (none) a13) := upd_same
    generalize upd Hc0 a13 (ExK (.ref C13) (none) a13) = Hx13 at Sx13 Ex13 ⊢
    refine raise2_of s3 s4 fun d14 hd14 => ?_
    have Sd14 := same_upd (o := .xd [("last", last), ("first", row)]) hd14
    have Ed14 : upd Hx13 d14 (.xd [("last", last), ("first", row)]) d14 = some (.xd [("last", last), ("first", row)]) := upd_same
    generalize upd Hx13 d14 (.xd [("last", last), ("first", row)]) = Hd14 at Sd14 Ed14 ⊢
    intro a14 n14
    have Sx14 := same_upd (o := ExK (.ref C14) (some d14) a14) n14
    have Ex14 : upd Hd14 a14 (ExK (.ref C14) (some d14) a14) a14 = some (ExK (.ref C14) (some d14) a14) := upd_same
    generalize upd Hd14 a14 (ExK (.ref C14) (some d14) a14) = Hx14 at Sx14 Ex14 ⊢
    refine ⟨sz100 (by decide), fun p2 g2 => ?_⟩
    have Sp2 := same_upd (o := .lst [V.ref a13, V.ref a14]) g2
    have Ep2 : upd Hx14 p2 (.lst [V.ref a13, V.ref a14]) p2 = some (.lst [V.ref a13, V.ref a14]) := upd_same
    generalize upd Hx14 p2 (.lst [V.ref a13, V.ref a14]) = Hp2 at Sp2 Ep2 ⊢
    refine ⟨_, _, SqL.of ((Sx13.trans (Sd14.trans (Sx14.trans Sp2))) _ _ Ec0), SqL.of Ep2, sz100 (by show 13 + 2 ≤ 100000; decide), fun c1 m1 => ?_⟩
    have Sc1 := same_upd (o := .lst ([V.ref a0, V.ref a1, V.ref a2, V.ref a3, V.ref a4, V.ref a5, V.ref a6, V.ref a7, V.ref a8, V.ref a9, V.ref a10, V.ref a11, V.ref a12] ++ [V.ref a13, V.ref a14])) m1
    have Ec1 : upd Hp2 c1 (.lst ([V.ref a0, V.ref a1, V.ref a2, V.ref a3, V.ref a4, V.ref a5, V.ref a6, V.ref a7, V.ref a8, V.ref a9, V.ref a10, V.ref a11, V.ref a12] ++ [V.ref a13, V.ref a14])) c1 = some (.lst [V.ref a0, V.ref a1, V.ref a2, V.ref a3, V.ref a4, V.ref a5, V.ref a6, V.ref a7, V.ref a8, V.ref a9, V.ref a10, V.ref a11, V.ref a12, V.ref a13, V.ref a14]) := upd_same
    generalize upd Hp2 c1 (.lst ([V.ref a0, V.ref a1, V.ref a2, V.ref a3, V.ref a4, V.ref a5, V.ref a6, V.ref a7, V.ref a8, V.ref a9, V.ref a10, V.ref a11, V.ref a12] ++ [V.ref a13, V.ref a14])) = Hc1 at Sc1 Ec1 ⊢
    refine q _ _ (Sx0.trans (Sd1.trans (Sx1.trans (Sx2.trans (Sx3.trans (Sd4.trans (Sx4.trans (Sx5.trans (Sx6.trans (Sp0.trans (Sx7.trans (Sx8.trans (Sx9.trans (Sd10.trans (Sx10.trans (Sx11.trans (Sx12.trans (Sp1.trans (Sc0.trans (Sx13.trans (Sd14.trans (Sx14.trans (Sp2.trans Sc1))))))))))))))))))))))) ⟨[a0, a1, a2, a3, a4, a5, a6, a7, a8, a9, a10, a11, a12, a13, a14], [none, some d1, none, none, some d4, none, none, none, none, none, some d10, none, none, none, some d14], Ec1, rfl, rfl, ?_, d1, d4, d10, d14, rfl, rfl, rfl, rfl, (Sx1.trans (Sx2.trans (Sx3.trans (Sd4.trans (Sx4.trans (Sx5.trans (Sx6.trans (Sp0.trans (Sx7.trans (Sx8.trans (Sx9.trans (Sd10.trans (Sx10.trans (Sx11.trans (Sx12.trans (Sp1.trans (Sc0.trans (Sx13.trans (Sd14.trans (Sx14.trans (Sp2.trans Sc1))))))))))))))))))))) _ _ Ed1, (Sx4.trans (Sx5.trans (Sx6.trans (Sp0.trans (Sx7.trans (Sx8.trans (Sx9.trans (Sd10.trans (Sx10.trans (Sx11.trans (Sx12.trans (Sp1.trans (Sc0.trans (Sx13.trans (Sd14.trans (Sx14.trans (Sp2.trans Sc1))))))))))))))))) _ _ Ed4, (Sx10.trans (Sx11.trans (Sx12.trans (Sp1.trans (Sc0.trans (Sx13.trans (Sd14.trans (Sx14.trans (Sp2.trans Sc1))))))))) _ _ Ed10, (Sx14.trans (Sp2.trans Sc1)) _ _ Ed14⟩
    intro i a c d h1 h2 h3
    match i, h1, h2, h3 with
    | 0, h1, h2, h3 => cases h1; cases h2; cases h3; exact ⟨(Sd1.trans (Sx1.trans (Sx2.trans (Sx3.trans (Sd4.trans (Sx4.trans (Sx5.trans (Sx6.trans (Sp0.trans (Sx7.trans (Sx8.trans (Sx9.trans (Sd10.trans (Sx10.trans (Sx11.trans (Sx12.trans (Sp1.trans (Sc0.trans (Sx13.trans (Sd14.trans (Sx14.trans (Sp2.trans Sc1)))))))))))))))))))))) _ _ Ex0, trivial⟩
    | 1, h1, h2, h3 => cases h1; cases h2; cases h3; exact ⟨(Sx2.trans (Sx3.trans (Sd4.trans (Sx4.trans (Sx5.trans (Sx6.trans (Sp0.trans (Sx7.trans (Sx8.trans (Sx9.trans (Sd10.trans (Sx10.trans (Sx11.trans (Sx12.trans (Sp1.trans (Sc0.trans (Sx13.trans (Sd14.trans (Sx14.trans (Sp2.trans Sc1)))))))))))))))))))) _ _ Ex1, ⟨_, (Sx1.trans (Sx2.trans (Sx3.trans (Sd4.trans (Sx4.trans (Sx5.trans (Sx6.trans (Sp0.trans (Sx7.trans (Sx8.trans (Sx9.trans (Sd10.trans (Sx10.trans (Sx11.trans (Sx12.trans (Sp1.trans (Sc0.trans (Sx13.trans (Sd14.trans (Sx14.trans (Sp2.trans Sc1))))))))))))))))))))) _ _ Ed1⟩⟩
    | 2, h1, h2, h3 => cases h1; cases h2; cases h3; exact ⟨(Sx3.trans (Sd4.trans (Sx4.trans (Sx5.trans (Sx6.trans (Sp0.trans (Sx7.trans (Sx8.trans (Sx9.trans (Sd10.trans (Sx10.trans (Sx11.trans (Sx12.trans (Sp1.trans (Sc0.trans (Sx13.trans (Sd14.trans (Sx14.trans (Sp2.trans Sc1))))))))))))))))))) _ _ Ex2, trivial⟩
    | 3, h1, h2, h3 => cases h1; cases h2; cases h3; exact ⟨(Sd4.trans (Sx4.trans (Sx5.trans (Sx6.trans (Sp0.trans (Sx7.trans (Sx8.trans (Sx9.trans (Sd10.trans (Sx10.trans (Sx11.trans (Sx12.trans (Sp1.trans (Sc0.trans (Sx13.trans (Sd14.trans (Sx14.trans (Sp2.trans Sc1)))))))))))))))))) _ _ Ex3, trivial⟩
    | 4, h1, h2, h3 => cases h1; cases h2; cases h3; exact ⟨(Sx5.trans (Sx6.trans (Sp0.trans (Sx7.trans (Sx8.trans (Sx9.trans (Sd10.trans (Sx10.trans (Sx11.trans (Sx12.trans (Sp1.trans (Sc0.trans (Sx13.trans (Sd14.trans (Sx14.trans (Sp2.trans Sc1)))))))))))))))) _ _ Ex4, ⟨_, (Sx4.trans (Sx5.trans (Sx6.trans (Sp0.trans (Sx7.trans (Sx8.trans (Sx9.trans (Sd10.trans (Sx10.trans (Sx11.trans (Sx12.trans (Sp1.trans (Sc0.trans (Sx13.trans (Sd14.trans (Sx14.trans (Sp2.trans Sc1))))))))))))))))) _ _ Ed4⟩⟩
    | 5, h1, h2, h3 => cases h1; cases h2; cases h3; exact ⟨(Sx6.trans (Sp0.trans (Sx7.trans (Sx8.trans (Sx9.trans (Sd10.trans (Sx10.trans (Sx11.trans (Sx12.trans (Sp1.trans (Sc0.trans (Sx13.trans (Sd14.trans (Sx14.trans (Sp2.trans Sc1))))))))))))))) _ _ Ex5, trivial⟩
    | 6, h1, h2, h3 => cases h1; cases h2; cases h3; exact ⟨(Sp0.trans (Sx7.trans (Sx8.trans (Sx9.trans (Sd10.trans (Sx10.trans (Sx11.trans (Sx12.trans (Sp1.trans (Sc0.trans (Sx13.trans (Sd14.trans (Sx14.trans (Sp2.trans Sc1)))))))))))))) _ _ Ex6, trivial⟩
    | 7, h1, h2, h3 => cases h1; cases h2; cases h3; exact ⟨(Sx8.trans (Sx9.trans (Sd10.trans (Sx10.trans (Sx11.trans (Sx12.trans (Sp1.trans (Sc0.trans (Sx13.trans (Sd14.trans (Sx14.trans (Sp2.trans Sc1)))))))))))) _ _ Ex7, trivial⟩
    | 8, h1, h2, h3 => cases h1; cases h2; cases h3; exact ⟨(Sx9.trans (Sd10.trans (Sx10.trans (Sx11.trans (Sx12.trans (Sp1.trans (Sc0.trans (Sx13.trans (Sd14.trans (Sx14.trans (Sp2.trans Sc1))))))))))) _ _ Ex8, trivial⟩
    | 9, h1, h2, h3 => cases h1; cases h2; cases h3; exact ⟨(Sd10.trans (Sx10.trans (Sx11.trans (Sx12.trans (Sp1.trans (Sc0.trans (Sx13.trans (Sd14.trans (Sx14.trans (Sp2.trans Sc1)))))))))) _ _ Ex9, trivial⟩
    | 10, h1, h2, h3 => cases h1; cases h2; cases h3; exact ⟨(Sx11.trans (Sx12.trans (Sp1.trans (Sc0.trans (Sx13.trans (Sd14.trans (Sx14.trans (Sp2.trans Sc1)))))))) _ _ Ex10, ⟨_, (Sx10.trans (Sx11.trans (Sx12.trans (Sp1.trans (Sc0.trans (Sx13.trans (Sd14.trans (Sx14.trans (Sp2.trans Sc1))))))))) _ _ Ed10⟩⟩
    | 11, h1, h2, h3 => cases h1; cases h2; cases h3; exact ⟨(Sx12.trans (Sp1.trans (Sc0.trans (Sx13.trans (Sd14.trans (Sx14.trans (Sp2.trans Sc1))))))) _ _ Ex11, trivial⟩
    | 12, h1, h2, h3 => cases h1; cases h2; cases h3; exact ⟨(Sp1.trans (Sc0.trans (Sx13.trans (Sd14.trans (Sx14.trans (Sp2.trans Sc1)))))) _ _ Ex12, trivial⟩
    | 13, h1, h2, h3 => cases h1; cases h2; cases h3; exact ⟨(Sd14.trans (Sx14.trans (Sp2.trans Sc1))) _ _ Ex13, trivial⟩
    | 14, h1, h2, h3 => cases h1; cases h2; cases h3; exact ⟨(Sp2.trans Sc1) _ _ Ex14, ⟨_, (Sx14.trans (Sp2.trans Sc1)) _ _ Ed14⟩⟩
    | _ + 15, h1, _, _ => cases h1
end
end Bk

namespace Bk
open PySem PySem.Spec PyProof.Rows L2
local macro_rules | `(tactic| walk_at "wp") => `(tactic| try simp only [tMk1, tMk2, tMk1f, rReprM_r, rIsX_r, rIsXT_r, tXk, tM1, rNinr_r, rNeN_r, rCatL_r, rSlT_r, rListOf_r, rIsB_b, rNotB_b, tFmtO, tJs, tOst, tCallS, WE, tRaise2, rOne_i, rSorD_r, tDNewK, Int.zero_add, tNever, tFor_eq, tLc_eq, iList, iTup, iRng1_eq, rRng1_i, iRng2_eq, rRng2_i, iEnum_eq, rEnum_r, iZip_eq, rZip_r, tSl, tPart, tNoPart, rSlL_r, rCat_r, rIn_r, rNin_r, rRepr_r, iRevR, rMin_r, rShr_i, rOdd_i, rSetL_r, gSub, rRg1_i, rRg2_i, rInr_r, tAug, ipI_ii, tLstRg, tRg1, tRg2, gTup_r, gUnl_r, rInt1_b, rInt1_i, rRep_r, tStep_r, scal, tSeq, tNext, tAsg, tRet, tRetN, tIfS, tDrop, tCB, tCons, tNil, tVar, tOp, tUn, tC, rU_i, rI_ii, rI0_ii, rEq, rNe, tTest, tB, tAnd, tOr, tNot, tAndV, tOrV, tNotV, tIf, tChain, tLst, tTup, tBM, tBM0, rAppend_r, rIxL_r, rIxT_r, rMx_ii, rMn_ii, rLnL_r, rLnT_r, rIsD_int, rIsD_bool, rIsD_list, rIsD_tuple, tCall, gName, gNil_n, gCons_c, cxK, L2.start, List.map, List.replicate, List.length_cons, List.length_nil, List.cons_append, List.nil_append, List.append_nil, List.getElem?_cons_zero, List.getElem?_cons_succ, Option.some.injEq, exists_eq_left', exists_eq_left, V.int.injEq, V.bl.injEq, V.str.injEq, V.ref.injEq, List.cons.injEq, and_true, true_and, and_self, List.set, wipe, rAll_r, rSum_r, reduceCtorEq, decide_true, decide_false, reduceIte, ite_true, ite_false, if_true, if_false, Bool.false_eq_true, Bool.not_true, Bool.not_false])
local macro_rules | `(tactic| walk_at "shaped") => `(tactic| (simp only [tMk1, tMk2, tMk1f, SeqAt.shaped, PyData.canLay0, PyData.canLayAll0, PyData.depth, PyData.depthAll]; rfl))
local macro_rules | `(tactic| walk_at "lay") => `(tactic| (simp only [tMk1, tMk2, tMk1f, PyData.canLay0, PyData.canLayAll0]; rfl))
section
variable {P : Program} {w : World} {K : PySem.W.Frag} {mg : Str → Option Value} {base : Heap}
abbrev s_fields : Stmt := top 22
theorem sc_fields : FnScope ["_law_found", "_law_told"] ["_law_found"] (defScope s_fields) := ⟨rfl, rfl, rfl, by decide +kernel, rfl, by decide +kernel, by decide +kernel⟩
def fieldsD (o1 o2 : Option Int) (r l : Int) : PyData := .list [.tuple [optD o1, optD o2], optD o1, .int r, .tuple [.int r, .int l]]
def spFields (K : PySem.W.Frag) (cs : List Addr) : Sp := fun vs H Q _ => ∃ (p : Addr) (o1 o2 : Option Int) (r l : Int), vs = [.ref p] ∧ AllE cs H p (optV o1) (optV o2) (.int r) (.int l) ∧ ∀ H' q t1 t2, Same H H' → H' q = some (.lst [.ref t1, optV o1, .int r, .ref t2]) → H' t1 = some (.tup [optV o1, optV o2]) → H' t2 = some (.tup [.int r, .int l]) → Q (.ref q) H'
theorem xf_of {C : Addr} {cs : List Addr} {ks : List Bool} (T : Kinds K C cs ks) : XfC K C := ⟨T.T.hg, T.T.hk, T.T.hs, T.T.hd⟩
theorem dp_opt {H : Hp} (o : Option Int) : Dp K H (optV o) (optD o) := by
  cases o with
  | none => exact .non
  | some i => exact .int i
theorem dp_fields {H : Hp} {q t1 t2 : Addr} {o1 o2 : Option Int} {r l : Int} (h1 : H q = some (.lst [.ref t1, optV o1, .int r, .ref t2])) (h2 : H t1 = some (.tup [optV o1, optV o2])) (h3 : H t2 = some (.tup [.int r, .int l])) : Dp K H (.ref q) (fieldsD o1 o2 r l) :=
  .lst (SqL.of h1) (.cons (.tup (SqT.of h2) (.cons (dp_opt o1) (.cons (dp_opt o2) .nil))) (.cons (dp_opt o1) (.cons (.int r) (.cons (.tup (SqT.of h3) (.cons (.int r) (.cons (.int l) .nil))) .nil))))
theorem AllE.same {cs : List Addr} {H H' : Hp} {p : Addr} {one other row last : V} (h : AllE cs H p one other row last) (s : Same H H') : AllE cs H' p one other row last := by
  obtain ⟨as, dd, hp, hal, hdl, hE, d1, d4, d10, d14, e1, e4, e10, e14, x1, x4, x10, x14⟩ := h
  exact ⟨as, dd, s _ _ hp, hal, hdl, fun i a c d h1 h2 h3 => ⟨s _ _ (hE i a c d h1 h2 h3).1, (hE i a c d h1 h2 h3).2.same s⟩, d1, d4, d10, d14, e1, e4, e10, e14, s _ _ x1, s _ _ x4, s _ _ x10, s _ _ x14⟩
theorem ok_fields {f : Addr} {fd : FuncData} {C0 C1 C2 C3 C4 C5 C6 C7 C8 C9 C10 C11 C12 C13 C14 CB : Addr} {c1 c4 c10 c14 : List Addr} {k1 k4 k10 k14 : List Bool} (F : Fun K "_law_fields" "_law_fields" s_fields f fd) (T1 : Kinds K C1 c1 k1) (T4 : Kinds K C4 c4 k4) (T10 : Kinds K C10 c10 k10) (T14 : Kinds K C14 c14 k14) (n1 : PySem.W.findIn K (.ref C1) "good" = some none) (n2 : PySem.W.findIn K (.ref C1) "day" = some none) (n3 : PySem.W.findIn K (.ref C4) "day" = some none) (n4 : PySem.W.findIn K (.ref C10) "row" = some none) (n5 : PySem.W.findIn K (.ref C14) "first" = some none) (n6 : PySem.W.findIn K (.ref C14) "last" = some none) : FnOk P w K mg base CX0 1 f fd ["_law_found"] (spFields K [C0, C1, C2, C3, C4, C5, C6, C7, C8, C9, C10, C11, C12, C13, C14, CB]) := by
  refine F.ok sc_fields (fun vs H Q E h => ?_) (fun cdv A outer s H vs Q E hr h => ?_)
  · obtain ⟨_, _, _, _, _, rfl, _⟩ := h
    rfl
  · obtain ⟨p, o1, o2, r, l, rfl, ⟨as, dd, hp, hal, hdl, hE, d1, d4, d10, d14, e1, e4, e10, e14, x1, x4, x10, x14⟩, q⟩ := h
    refine ⟨_, (pss_cons (ps_set (i := 1) sc_fields.nd rfl (Or.inl rfl) (pe_lst (pa_cons (pe_tup (pa_cons (pe_xk (pe_ix ix_list (pv 0) pe_int (fun _ _ => rfl))) (pa_cons (pe_xk (pe_ix ix_list (pv 0) pe_int (fun _ _ => rfl))) pa_nil))) (pa_cons (pe_xk (pe_ix ix_list (pv 0) pe_int (fun _ _ => rfl))) (pa_cons (pe_xk (pe_ix ix_list (pv 0) pe_int (fun _ _ => rfl))) (pa_cons (pe_tup (pa_cons (pe_xk (pe_ix ix_list (pv 0) pe_int (fun _ _ => rfl))) (pa_cons (pe_xk (pe_ix ix_list (pv 0) pe_int (fun _ _ => rfl))) pa_nil))) pa_nil))))))
 (pss_one (ps_ret (pv 1)))), ?_⟩
    have at' : ∀ k, k < 15 → ∃ a, as[k]? = some a := fun k hk => ⟨_, List.getElem?_eq_getElem (by omega)⟩
    obtain ⟨a1, h1⟩ := at' 1 (by decide)
    obtain ⟨a4, h4⟩ := at' 4 (by decide)
    obtain ⟨a10, h10⟩ := at' 10 (by decide)
    obtain ⟨a14, h14⟩ := at' 14 (by decide)
    have f1 := (hE 1 a1 C1 (some d1) h1 rfl e1).1
    have f4 := (hE 4 a4 C4 (some d4) h4 rfl e4).1
    have f10 := (hE 10 a10 C10 (some d10) h10 rfl e10).1
    have f14 := (hE 14 a14 C14 (some d14) h14 rfl e14).1
    have ix : ∀ {k : Nat} {a : Addr}, as[k]? = some a → atI (as.map V.ref) (k : Int) = some (.ref a) := fun h => atI_nat (by rw [List.getElem?_map, h]; rfl)
    have X1 := xf_of T1
    have X4 := xf_of T4
    have X10 := xf_of T10
    have X14 := xf_of T14
    walk_at "wp"
    refine ⟨_, _, SqL.of hp, ix (k := 1) h1, a1, C1, d1, _, _, rfl, f1, X1, n1, x1, rfl, _, _, SqL.of hp, ix (k := 1) h1, a1, C1, d1, _, _, rfl, f1, X1, n2, x1, rfl, sz100 (by decide), fun t1 g1 => ?_⟩
    have S1 := same_upd (o := .tup [optV o1, optV o2]) g1
    have E1 : upd H t1 (.tup [optV o1, optV o2]) t1 = some (.tup [optV o1, optV o2]) := upd_same
    generalize upd H t1 (.tup [optV o1, optV o2]) = H1 at S1 E1 ⊢
    refine ⟨_, _, SqL.of (S1 _ _ hp), ix (k := 4) h4, a4, C4, d4, _, _, rfl, S1 _ _ f4, X4, n3, S1 _ _ x4, rfl, _, _, SqL.of (S1 _ _ hp), ix (k := 10) h10, a10, C10, d10, _, _, rfl, S1 _ _ f10, X10, n4, S1 _ _ x10, rfl, ?_⟩
    refine ⟨_, _, SqL.of (S1 _ _ hp), ix (k := 14) h14, a14, C14, d14, _, _, rfl, S1 _ _ f14, X14, n5, S1 _ _ x14, rfl, _, _, SqL.of (S1 _ _ hp), ix (k := 14) h14, a14, C14, d14, _, _, rfl, S1 _ _ f14, X14, n6, S1 _ _ x14, rfl, sz100 (by decide), fun t2 g2 => ?_⟩
    have S2 := same_upd (o := .tup [V.int r, V.int l]) g2
    have E2 : upd H1 t2 (.tup [V.int r, V.int l]) t2 = some (.tup [V.int r, V.int l]) := upd_same
    generalize upd H1 t2 (.tup [V.int r, V.int l]) = H2 at S2 E2 ⊢
    refine ⟨sz100 (by decide), fun t3 g3 => ?_⟩
    have S3 := same_upd (o := .lst [V.ref t1, optV o1, V.int r, V.ref t2]) g3
    exact q _ _ t1 t2 (S1.trans (S2.trans S3)) upd_same ((S2.trans S3) _ _ E1) (S3 _ _ E2)
abbrev s_raised : Stmt := top 23
theorem sc_raised : FnScope ["_law_one", "_law_other", "_law_kept", "_law_e"] ["_law_one", "_law_other"] (defScope s_raised) := ⟨rfl, rfl, rfl, by decide +kernel, rfl, by decide +kernel, by decide +kernel⟩
structure BaseE (K : PySem.W.Frag) (mg : Str → Option Value) (C : Addr) (cs : List Addr) : Prop where
  g : mg "BakeError" = some (.ref C)
  sub : ∀ c ∈ cs, PySem.W.exmOne K (.ref c) (.ref C) = some true
def spRaised : Sp := fun vs H Q _ => ∃ r l : Int, vs = [.int r, .int l] ∧ smV (.int r) ∧ smV (.int l) ∧ ∀ H', Same H H' → Q (.bl true) H'
theorem ok_raised {f : Addr} {fd : FuncData} {C0 C1 C2 C3 C4 C5 C6 C7 C8 C9 C10 C11 C12 C13 C14 CB : Addr} (F : Fun K "_law_raised" "_law_raised" s_raised f fd) (BE : BaseE K mg CB [C0, C1, C2, C3, C4, C5, C6, C7, C8, C9, C10, C11, C12, C13, C14]) (NB_TooMuch : Err2 P w K mg base "TooMuch" C14 "first" "last") (T14 : Kinds K C14 [C0, C1, C2, C3, C4, C5, C6, C7, C8, C9, C10, C11, C12, C13, C14, CB] [false, false, false, false, false, false, false, false, false, false, false, false, false, false, true, true]) (n5 : PySem.W.findIn K (.ref C14) "first" = some none) (n6 : PySem.W.findIn K (.ref C14) "last" = some none)
    (D_kinds : Def P w K mg base "_law_kinds" 1 ["_law_e"] (spKinds K [C0, C1, C2, C3, C4, C5, C6, C7, C8, C9, C10, C11, C12, C13, C14, CB])) : FnOk P w K mg base CX0 3 f fd ["_law_one", "_law_other"] spRaised := by
  refine F.ok sc_raised (fun vs H Q E h => ?_) (fun cdv A outer s H vs Q E hr h => ?_)
  · obtain ⟨_, _, rfl, _⟩ := h
    rfl
  · obtain ⟨r, l, rfl, s1, s2, q⟩ := h
    refine ⟨_, (pss_cons (ps_set (i := 2) sc_raised.nd rfl (Or.inl rfl) pe_non)
 (pss_cons (ps_try_keep (i := 3) (tb := fun W => tRaise2 K C14 "first" "last" W (tCons (tVar 0) (tCons (tVar 1) tNil))) (ts := fun _ _ _ => tAsg (tVar 3) (gName 2)) (Wout := fun _ _ _ _ => False) rfl rfl sc_raised.nd rfl rfl ⟨rfl, by decide, Or.inl BE.g⟩ takes0 (fun W pn xe tk _ => (pss_one (ps_raise2 NB_TooMuch rfl tk hr (by rfl) (pa_cons (pv 0) (pa_cons (pv 1) pa_nil))))) (fun a oe cls d pn hz hf => (pss_one (ps_set (i := 2) sc_raised.nd rfl (Or.inl rfl) (pv 3)))))
 (pss_one (ps_ret (pe_and (pe_ix ix_list (pe_callD D_kinds hr (by rfl) (pa_cons (pv 2) pa_nil)) pe_int (fun _ _ => rfl)) (pe_and (pe_cmpR op_eq (pe_xk (pv 2)) (pv 0) (nomark _)) (pe_one (pe_cmpR op_eq (pe_xk (pv 2)) (pv 1) (nomark _))))))))), ?_⟩
    have X14 := xf_of T14
    walk_at "wp"
    refine raise2_of s1 s2 fun d hd => ?_
    refine ⟨true, BE.sub C14 (by simp), fun z => (by cases z), fun _ a ha => ?_⟩
    have S0 := same_upd (o := .xd [("last", V.int l), ("first", V.int r)]) hd
    have E0' : upd H d (.xd [("last", V.int l), ("first", V.int r)]) d = some (.xd [("last", V.int l), ("first", V.int r)]) := upd_same
    generalize upd H d (.xd [("last", V.int l), ("first", V.int r)]) = H0 at S0 E0' ha ⊢
    walk_at "wp"
    have S1 := same_upd (o := ExK (.ref C14) (some d) a) ha
    have E1 : upd H0 a (ExK (.ref C14) (some d) a) a = some (ExK (.ref C14) (some d) a) := upd_same
    generalize upd H0 a (ExK (.ref C14) (some d) a) = H1 at S1 E1 ⊢
    have ed := S1 _ _ E0'
    refine ⟨a, C14, some d, _, rfl, E1, ⟨_, ed⟩, T14, rfl, fun H2 p S2 hp => ?_⟩
    have S02 := S0.trans (S1.trans S2)
    walk_at "wp"
    refine ⟨_, _, SqL.of hp, atI_nat (j := 14) rfl, ?_⟩
    refine ⟨true, rfl, ?_⟩
    rw [if_pos rfl]
    refine ⟨a, C14, d, _, _, rfl, S2 _ _ E1, X14, n5, S2 _ _ ed, rfl, ?_⟩
    refine ⟨rfl, ?_⟩
    rw [if_pos (decide_eq_true rfl)]
    refine ⟨a, C14, d, _, _, rfl, S2 _ _ E1, X14, n6, S2 _ _ ed, rfl, rfl, ?_⟩
    rw [decide_eq_true rfl]
    exact q _ S02
end
end Bk

namespace Bk
open PySem PySem.Spec PyProof.Rows L2
local macro_rules | `(tactic| walk_at "wp") => `(tactic| try simp only [tMk1, tMk2, tMk1f, rReprM_r, rIsX_r, rIsXT_r, tXk, tM1, rNinr_r, rNeN_r, rCatL_r, rSlT_r, rListOf_r, rIsB_b, rNotB_b, tFmtO, tJs, tOst, tCallS, WE, tRaise2, rOne_i, rSorD_r, tDNewK, Int.zero_add, tNever, tFor_eq, tLc_eq, iList, iTup, iRng1_eq, rRng1_i, iRng2_eq, rRng2_i, iEnum_eq, rEnum_r, iZip_eq, rZip_r, tSl, tPart, tNoPart, rSlL_r, rCat_r, rIn_r, rNin_r, rRepr_r, iRevR, rMin_r, rShr_i, rOdd_i, rSetL_r, gSub, rRg1_i, rRg2_i, rInr_r, tAug, ipI_ii, tLstRg, tRg1, tRg2, gTup_r, gUnl_r, rInt1_b, rInt1_i, rRep_r, tStep_r, scal, tSeq, tNext, tAsg, tRet, tRetN, tIfS, tDrop, tCB, tCons, tNil, tVar, tOp, tUn, tC, rU_i, rI_ii, rI0_ii, rEq, rNe, tTest, tB, tAnd, tOr, tNot, tAndV, tOrV, tNotV, tIf, tChain, tLst, tTup, tBM, tBM0, rAppend_r, rIxL_r, rIxT_r, rMx_ii, rMn_ii, rLnL_r, rLnT_r, rIsD_int, rIsD_bool, rIsD_list, rIsD_tuple, tCall, gName, gNil_n, gCons_c, cxK, L2.start, List.map, List.replicate, List.length_cons, List.length_nil, List.cons_append, List.nil_append, List.append_nil, List.getElem?_cons_zero, List.getElem?_cons_succ, Option.some.injEq, exists_eq_left', exists_eq_left, V.int.injEq, V.bl.injEq, V.str.injEq, V.ref.injEq, List.cons.injEq, and_true, true_and, and_self, List.set, wipe, rAll_r, rSum_r, reduceCtorEq, decide_true, decide_false, reduceIte, ite_true, ite_false, if_true, if_false, Bool.false_eq_true, Bool.not_true, Bool.not_false])
local macro_rules | `(tactic| walk_at "shaped") => `(tactic| (simp only [tMk1, tMk2, tMk1f, SeqAt.shaped, PyData.canLay0, PyData.canLayAll0, PyData.depth, PyData.depthAll]; rfl))
local macro_rules | `(tactic| walk_at "lay") => `(tactic| (simp only [tMk1, tMk2, tMk1f, PyData.canLay0, PyData.canLayAll0]; rfl))
local macro_rules | `(tactic| walk_at "wg") => `(tactic| try simp only [gName, gTup_r, gCons_c, gNil_n, cxK, List.set, List.cons.injEq, and_true, true_and, exists_eq_left', exists_eq_left, List.length_cons, List.length_nil])
section
variable {P : Program} {w : World} {K : PySem.W.Frag} {mg : Str → Option Value} {base : Heap}
abbrev s_law : Stmt := top 24
theorem sc_law : FnScope ["_law_script", "_law_at", "_law_cell", "_law_digits", "_law_one", "_law_other", "_law_text", "_law_found", "_law_number", "_law_error", "_law_digit", "_law_k"] ["_law_script"] (defScope s_law) := ⟨rfl, rfl, rfl, by decide +kernel, rfl, by decide +kernel, by decide +kernel⟩
def hot (i : Nat) : List Bool := (List.range 15).map (fun k => decide (i = k)) ++ [true]
theorem dp_bls {H : Hp} : ∀ l : List Bool, DpAll K H (l.map V.bl) (l.map PyData.bool)
  | [] => .nil
  | b :: r => .cons (.bl b) (dp_bls r)
theorem lay_bls : ∀ l : List Bool, PyData.canLayAll0 (l.map PyData.bool) = true
  | [] => rfl
  | b :: r => by
    rw [List.map_cons, PyData.canLayAll0, lay_bls r, Bool.and_true]
    rfl
theorem depth_bls : ∀ l : List Bool, PyData.depthAll (l.map PyData.bool) = 0
  | [] => rfl
  | b :: r => by
    rw [List.map_cons, PyData.depthAll, depth_bls r]
    rfl
theorem ne_bls {H : Hp} {a b : Addr} {l : List Bool} {Q : VK} (h1 : SqL K H a (l.map V.bl)) (h2 : SqL K H b (l.map V.bl)) (q : Q (.bl false) H) : rNeD K (.ref a) (.ref b) H Q := by
  have sh : SeqAt.shaped (.list (l.map PyData.bool)) = true := by
    simp only [SeqAt.shaped, PyData.canLay0, lay_bls, PyData.depth, depth_bls, Bool.true_and]
    decide
  refine ⟨_, _, .lst h1 (dp_bls l), .lst h2 (dp_bls l), sh, sh, ?_⟩
  rw [SeqAt.eqv_refl _ (by simp only [PyData.canLay0, lay_bls])]
  exact q
theorem ne_fields {H : Hp} {x y : V} {o1 o2 : Option Int} {r l : Int} {Q : VK} (h1 : Dp K H x (fieldsD o1 o2 r l)) (h2 : Dp K H y (fieldsD o1 o2 r l)) (q : Q (.bl false) H) : rNeD K x y H Q := by
  have sh : SeqAt.shaped (fieldsD o1 o2 r l) = true := by cases o1 <;> cases o2 <;> rfl
  refine ⟨_, _, h1, h2, sh, sh, ?_⟩
  rw [SeqAt.eqv_refl _ (by cases o1 <;> cases o2 <;> rfl)]
  exact q
def spLaw (K : PySem.W.Frag) : Sp := fun vs H Q _ => ∃ (a : Addr) (ns : List Int), vs = [.ref a] ∧ SqL K H a (ns.map V.int) ∧ ns.length ≤ 63 ∧ ∀ H', Q (.bl true) H'
def L4 (v0 : V) (H : Hp) (_ : Nat) (σ : L2.St) (H' : Hp) : Prop := (∃ y1 y2 y3 y4 y5 y6 y7 y8 y9, σ = [some v0, y1, y2, y3, y4, y5, y6, y7, y8, y9, none, none]) ∧ Same H H'
def L4e (v0 v1 v2 v3 v4 v5 v6 v7 : V) (H : Hp) (_ : Nat) (σ : L2.St) (H' : Hp) : Prop := (∃ y8 y9, σ = [some v0, some v1, some v2, some v3, some v4, some v5, some v6, some v7, y8, y9, none, none]) ∧ Same H H'
theorem ok_law0 {f : Addr} {fd : FuncData} {C0 C1 C2 C3 C4 C5 C6 C7 C8 C9 C10 C11 C12 C13 C14 CB : Addr} (F : Fun K "law" "law" s_law f fd) (B : Bi mg) (Bv : mg "ValueError" = none) (M_BakeError : mg "BakeError" = some (.ref CB)) (D_numbers : Def P w K mg base "_law_numbers" 1 ["_law_cell", "_law_salt", "_law_sizes"] (spNumbers K)) (D_kinds : Def P w K mg base "_law_kinds" 1 ["_law_e"] (spKinds K [C0, C1, C2, C3, C4, C5, C6, C7, C8, C9, C10, C11, C12, C13, C14, CB])) (D_all : Def P w K mg base "_law_all" 3 ["_law_one", "_law_other", "_law_row", "_law_last", "_law_text"] (spAll K [C0, C1, C2, C3, C4, C5, C6, C7, C8, C9, C10, C11, C12, C13, C14, CB])) (D_fields : Def P w K mg base "_law_fields" 1 ["_law_found"] (spFields K [C0, C1, C2, C3, C4, C5, C6, C7, C8, C9, C10, C11, C12, C13, C14, CB])) (D_raised : Def P w K mg base "_law_raised" 3 ["_law_one", "_law_other"] spRaised)
    (TT : ∀ i c, i < 15 → [C0, C1, C2, C3, C4, C5, C6, C7, C8, C9, C10, C11, C12, C13, C14, CB][i]? = some c → Kinds K c [C0, C1, C2, C3, C4, C5, C6, C7, C8, C9, C10, C11, C12, C13, C14, CB] (hot i)) : FnOk P w K mg base CX0 4 f fd ["_law_script"] (spLaw K) := by
  generalize hcs : [C0, C1, C2, C3, C4, C5, C6, C7, C8, C9, C10, C11, C12, C13, C14, CB] = cs at D_kinds D_all D_fields TT
  have hcB : cs[15]? = some CB := by rw [← hcs]; rfl
  have hcl : cs.length = 16 := by rw [← hcs]; rfl
  clear hcs
  refine F.ok sc_law (fun vs H Q E h => ?_) (fun cdv A outer s H vs Q E hr h => ?_)
  · obtain ⟨a, ns, rfl, _⟩ := h
    rfl
  · obtain ⟨a, ns, rfl, hS, hlen, q⟩ := h
    refine ⟨_, (pss_cons (ps_for PassesOwn.never rfl (pi_enum (by rfl) B.enumerate (pa_cons (pe_op op_cat (pe_lst (pa_cons pe_int pa_nil)) (pe_slice sl_list (pv 0) po_none (po_some pe_int))) pa_nil)) (pg_tup rfl (pgs_cons (pg_name (i := 1) sc_law.nd rfl (Or.inl rfl)) (pgs_cons (pg_name (i := 2) sc_law.nd rfl (Or.inl rfl)) pgs_nil))) (pss_cons (ps_set (i := 3) sc_law.nd rfl (Or.inl rfl) (pe_callD D_numbers hr (by rfl) (pa_cons (pv 2) (pa_cons (pe_op op_add pe_int (pv 1)) (pa_cons (pe_op op_cat (pe_lst (pa_cons (pe_op op_pow pe_int pe_int) (pa_cons (pe_op op_pow pe_int pe_int) (pa_cons pe_int (pa_cons pe_int pa_nil))))) (pe_op op_rep (pe_lst (pa_cons pe_int pa_nil)) pe_int)) pa_nil)))))
 (pss_cons (ps_set (i := 4) sc_law.nd rfl (Or.inl rfl) (pe_ix ix_list (pe_lst (pa_cons (pe_ix ix_list (pv 3) pe_int (fun _ _ => rfl)) (pa_cons pe_non pa_nil))) (pe_callTy call_in1 (by rfl) B.int (by decide +kernel) (pa_cons (pe_cmpR op_eq (pe_ix ix_list (pv 3) pe_int (fun _ _ => rfl)) pe_int (nomark _)) pa_nil)) (fun _ _ => rfl)))
 (pss_cons (ps_set (i := 5) sc_law.nd rfl (Or.inl rfl) (pe_ix ix_list (pe_lst (pa_cons (pe_ix ix_list (pv 3) pe_int (fun _ _ => rfl)) (pa_cons pe_non pa_nil))) (pe_callTy call_in1 (by rfl) B.int (by decide +kernel) (pa_cons (pe_cmpR op_lt (pe_ix ix_list (pv 3) pe_int (fun _ _ => rfl)) pe_int (nomark _)) pa_nil)) (fun _ _ => rfl)))
 (pss_cons (ps_set (i := 6) sc_law.nd rfl (Or.inl rfl) (pe_join pe_str (pe_lc (own := [("_law_digit", 10)]) (g := (gName 10)) rfl sc_law.nd (pi_list (pe_slice sl_list (pv 3) (po_some pe_int) (po_some (pe_op op_add pe_int (pe_ix ix_list (pv 3) pe_int (fun _ _ => rfl)))))) (blkOk_by (own := [("_law_digit", 10)]) (N := ["_law_script", "_law_at", "_law_cell", "_law_digits", "_law_one", "_law_other", "_law_text", "_law_found", "_law_number", "_law_error", "_law_digit", "_law_k"]) (sc := defScope s_law) (by decide +kernel)) (fun _ _ _ _ _ => (pg_name (i := 10) sc_law.nd rfl (Or.inl rfl))) (fun _ _ _ _ _ => pts_nil) (fun _ _ _ _ _ => (pe_ix ix_str pe_str (pv 10) (fun _ _ => rfl))))))
 (pss_cons (ps_set (i := 7) sc_law.nd rfl (Or.inl rfl) (pe_callD D_all hr (by rfl) (pa_cons (pv 4) (pa_cons (pv 5) (pa_cons (pe_ix ix_list (pv 3) pe_int (fun _ _ => rfl)) (pa_cons (pe_ix ix_list (pv 3) pe_int (fun _ _ => rfl)) (pa_cons (pv 6) pa_nil)))))))
 (pss_cons (ps_for PassesOwn.never rfl (pi_enum (by rfl) B.enumerate (pa_cons (pv 7) pa_nil)) (pg_tup rfl (pgs_cons (pg_name (i := 8) sc_law.nd rfl (Or.inr rfl)) (pgs_cons (pg_name (i := 9) sc_law.nd rfl (Or.inl rfl)) pgs_nil))) (pss_cons (ps_if (PW.pt (pw_or (pt_not (pt_val (pe_callB call_isX (by rfl) B.isinstance (by decide +kernel) (pa_cons (pv 9) (pa_cons (pe_globR (by rfl) M_BakeError) pa_nil))))) (pw_or1 (pt_not (pt_val (pe_callB call_isX (by rfl) B.isinstance (by decide +kernel) (pa_cons (pv 9) (pa_cons (pe_bltn (v := .ty "ValueError") (by rfl) Bv (by decide +kernel) rfl) pa_nil)))))))) (pss_one (ps_ret pe_bl)) pss_nil)
 (pss_one (ps_if (pt_cmpR (op_neD hr.units) (pe_callD D_kinds hr (by rfl) (pa_cons (pv 9) pa_nil)) (pe_lc (own := [("_law_k", 11)]) (g := (gName 11)) rfl sc_law.nd (pi_range1 (by rfl) B.range (pa_cons pe_int pa_nil)) (blkOk_by (own := [("_law_k", 11)]) (N := ["_law_script", "_law_at", "_law_cell", "_law_digits", "_law_one", "_law_other", "_law_text", "_law_found", "_law_number", "_law_error", "_law_digit", "_law_k"]) (sc := defScope s_law) (by decide +kernel)) (fun _ _ _ _ _ => (pg_name (i := 11) sc_law.nd rfl (Or.inl rfl))) (fun _ _ _ _ _ => pts_nil) (fun _ _ _ _ _ => (pe_cmpR op_eq (pv 8) (pv 11) (nomark _)))) (nomark _)) (pss_one (ps_ret pe_bl)) pss_nil))))
 (pss_cons (ps_if (pt_cmpR (op_neD hr.units) (pe_callD D_fields hr (by rfl) (pa_cons (pv 7) pa_nil)) (pe_lst (pa_cons (pe_tup (pa_cons (pv 4) (pa_cons (pv 5) pa_nil))) (pa_cons (pv 4) (pa_cons (pe_ix ix_list (pv 3) pe_int (fun _ _ => rfl)) (pa_cons (pe_tup (pa_cons (pe_ix ix_list (pv 3) pe_int (fun _ _ => rfl)) (pa_cons (pe_ix ix_list (pv 3) pe_int (fun _ _ => rfl)) pa_nil))) pa_nil))))) (nomark _)) (pss_one (ps_ret pe_bl)) pss_nil)
 (pss_one (ps_if (pt_not (pt_val (pe_callD D_raised hr (by rfl) (pa_cons (pe_ix ix_list (pv 3) pe_int (fun _ _ => rfl)) (pa_cons (pe_ix ix_list (pv 3) pe_int (fun _ _ => rfl)) pa_nil))))) (pss_one (ps_ret pe_bl)) pss_nil))))))))))
 (pss_one (ps_ret pe_bl))), ?_⟩
    walk_at "wp"
    refine ⟨sz100 (by decide), fun q1 h1 => ⟨_, (same_upd h1).seq hS, fun q2 h2 => ?_⟩⟩
    rw [show cutV (ns.map V.int) none (some 20) = (ns.take 20).map V.int by rw [List.map_take]; exact cutV_upto _ 20]
    obtain ⟨cl, hcs, hcl'⟩ : ∃ cs : List Int, ns.take 20 = cs ∧ cs.length ≤ 20 := ⟨_, rfl, by rw [List.length_take]; omega⟩
    rw [hcs]
    have R1 := same_upd (o := .lst [V.int 2]) h1
    have G1 : upd H q1 (.lst [V.int 2]) q1 = some (.lst [V.int 2]) := upd_same
    generalize upd H q1 (.lst [V.int 2]) = J1 at R1 G1 h2 ⊢
    have R2 := same_upd (o := .lst (cl.map V.int)) h2
    have G2 : upd J1 q2 (.lst (cl.map V.int)) q2 = some (.lst (cl.map V.int)) := upd_same
    generalize upd J1 q2 (.lst (cl.map V.int)) = J2 at R2 G2 ⊢
    refine ⟨_, _, R2 _ _ G1, G2, sz100 (by rw [List.length_map]; show 1 + cl.length ≤ 100000; omega), fun q3 h3 => ?_⟩
    have R3 := same_upd (o := .lst ([V.int 2] ++ cl.map V.int)) h3
    have G3 : upd J2 q3 (.lst ([V.int 2] ++ cl.map V.int)) q3 = some (.lst ((2 :: cl).map V.int)) := upd_same
    generalize upd J2 q3 (.lst ([V.int 2] ++ cl.map V.int)) = J3 at R3 G3 ⊢
    refine ⟨_, SqL.of G3, LoopR.by (walk_enum (xs := (2 :: cl).map V.int)) (L4 (.ref a) J3) ⟨⟨_, _, _, _, _, _, _, _, _, rfl⟩, Same.refl _⟩ (fun i σ H' _ hI => hI.2.seq (SqL.of G3)) (fun i v σ H0 H4 hi hI hY => ?_) (fun σ H4 hI => ?_)⟩
    rotate_left
    · exact q _
    obtain ⟨⟨y1, y2, y3, y4, y5, y6, y7, y8, y9, rfl⟩, S0⟩ := hI
    have S4 := S0.trans (ypair_same hY)
    obtain ⟨T, z1, z2, rfl, hT, rfl, e1, e2⟩ := hY
    cases e1
    have e2 : ((2 :: cl).map V.int)[i]? = some z2 := e2
    rw [List.length_map] at hi
    have hi' : i < cl.length + 1 := hi
    obtain ⟨c, rfl⟩ : ∃ c : Int, z2 = .int c := by
      rw [List.getElem?_map, List.getElem?_eq_getElem hi] at e2
      exact ⟨_, (Option.some.inj e2).symm⟩
    walk_at "wg"
    refine ⟨_, SqT.of upd_same, rfl, ?_⟩
    generalize upd H0 T (.tup [V.int (i : Int), V.int c]) = H4 at S4 ⊢
    walk_at "wg"
    refine seq5 (fun σ' H' => ∃ (pd pf : Addr) (fs : List Int) (o1 o2 : Option Int) (f0 f1 : Int) (t : Str), σ' = [some (.ref a), some (.int (i : Int)), some (.int c), some (.ref pd), some (optV o1), some (optV o2), some (.str t), some (.ref pf), y8, y9, none, none] ∧ Same J3 H' ∧ SqL K H' pd ((f0 :: f1 :: fs).map V.int) ∧ smV (.int f0) ∧ smV (.int f1) ∧ AllE cs H' pf (optV o1) (optV o2) (.int f0) (.int f1)) (fun σ1 H5 hm => ?_) (fun N hN => ?_)
    · obtain ⟨pd, pf, fs, o1, o2, f0, f1, t, rfl, S5, hpd, m0, m1, hA⟩ := hm
      obtain ⟨as, dd, hp, hal, hdl, hE, d1, d4, d10, d14, e1, e4, e10, e14, x1, x4, x10, x14⟩ := id hA
      refine seq1 (L4e (.ref a) (.int (i : Int)) (.int c) (.ref pd) (optV o1) (optV o2) (.str t) (.ref pf) H5 15) (fun σ2 H6 hm => ?_) (fun N hN => ?_)
      · obtain ⟨⟨y8, y9, rfl⟩, S6⟩ := hm
        walk_at "wp"
        refine ⟨pf, o1, o2, f0, f1, rfl, hA.same S6, fun H7 q7 u1 u2 S7 hq hu1 hu2 => ?_⟩
        have S57 := S6.trans S7
        have hpd7 := S57.seq hpd
        refine ⟨sz100 (by decide), fun w1 g1 => ?_⟩
        have SA := same_upd (o := .tup [optV o1, optV o2]) g1
        have EA : upd H7 w1 (.tup [optV o1, optV o2]) w1 = some (.tup [optV o1, optV o2]) := upd_same
        generalize upd H7 w1 (.tup [optV o1, optV o2]) = HA at SA EA ⊢
        refine ⟨_, _, SA.seq hpd7, atI_nat (j := 0) rfl, _, _, SA.seq hpd7, atI_nat (j := 0) rfl, _, _, SA.seq hpd7, atI_nat (j := 1) rfl, sz100 (by decide), fun w2 g2 => ?_⟩
        have SB := same_upd (o := .tup [V.int f0, V.int f1]) g2
        have EB : upd HA w2 (.tup [V.int f0, V.int f1]) w2 = some (.tup [V.int f0, V.int f1]) := upd_same
        generalize upd HA w2 (.tup [V.int f0, V.int f1]) = HB at SB EB ⊢
        refine ⟨sz100 (by decide), fun w3 g3 => ?_⟩
        have SC := same_upd (o := .lst [V.ref w1, optV o1, V.int f0, V.ref w2]) g3
        have EC : upd HB w3 (.lst [V.ref w1, optV o1, V.int f0, V.ref w2]) w3 = some (.lst [V.ref w1, optV o1, V.int f0, V.ref w2]) := upd_same
        generalize upd HB w3 (.lst [V.ref w1, optV o1, V.int f0, V.ref w2]) = HC at SC EC ⊢
        have SAC := SA.trans (SB.trans SC)
        refine ne_fields (dp_fields (SAC _ _ hq) (SAC _ _ hu1) (SAC _ _ hu2)) (dp_fields EC ((SB.trans SC) _ _ EA) (SC _ _ EB)) ⟨false, rfl, ?_⟩
        rw [if_neg (by decide)]
        refine ⟨_, _, SAC.seq hpd7, atI_nat (j := 0) rfl, _, _, SAC.seq hpd7, atI_nat (j := 1) rfl, f0, f1, rfl, m0, m1, fun HD SD => ?_⟩
        refine ⟨true, rfl, ?_⟩
        rw [Bool.not_true, if_neg (by decide)]
        exact ⟨⟨_, _, _, _, _, _, _, _, _, rfl⟩, S5.trans (S57.trans (SAC.trans SD))⟩
      · walk_at "wp"
        refine ⟨_, SqL.of hp, LoopR.by (walk_enum (xs := as.map V.ref)) (L4e (.ref a) (.int (i : Int)) (.int c) (.ref pd) (optV o1) (optV o2) (.str t) (.ref pf) H5) ⟨⟨_, _, rfl⟩, Same.refl _⟩ (fun i σ H' _ hI => hI.2.seq (SqL.of hp)) (fun j v σ H0 H6 hj hI hY => ?_) (fun σ H6 hI => ?_)⟩
        · obtain ⟨⟨y8, y9, rfl⟩, S0⟩ := hI
          have S6 := S0.trans (ypair_same hY)
          obtain ⟨T, z1, z2, rfl, hT, rfl, e1, e2⟩ := hY
          cases e1
          have e2 : (as.map V.ref)[j]? = some z2 := e2
          rw [List.length_map] at hj
          have haj : as[j]? = some as[j] := List.getElem?_eq_getElem hj
          have hcj : cs[j]? = some cs[j] := List.getElem?_eq_getElem (by omega)
          have hdj : dd[j]? = some dd[j] := List.getElem?_eq_getElem (by omega)
          generalize as[j] = aj at haj
          generalize cs[j] = Cj at hcj
          generalize dd[j] = dj at hdj
          rw [List.getElem?_map, haj] at e2
          cases e2
          have Tj := TT j Cj (by omega) hcj
          obtain ⟨hej, hdij⟩ := hE j aj Cj dj haj hcj hdj
          obtain ⟨bB, eB, tB⟩ := Tj.each 15 CB hcB
          have hbB : bB = true := by
            have : (hot j)[15]? = some true := rfl
            rw [this] at eB
            exact (Option.some.inj eB).symm
          subst hbB
          walk_at "wp"
          refine ⟨_, SqT.of upd_same, rfl, ?_⟩
          generalize upd H0 T (.tup [V.int (j : Int), V.ref aj]) = H6 at S6 ⊢
          walk_at "wp"
          have hej6 := S6 _ _ hej
          have hdij6 := hdij.same S6
          refine ⟨Cj, dj, .ref CB, _, hej6, hdij6, Tj.T, rfl, fun _ z => z, tB, ?_⟩
          walk_at "wp"
          refine ⟨Cj, dj, .type "ValueError", _, hej6, hdij6, Tj.T, rfl, fun _ z => z, Tj.base, ?_⟩
          walk_at "wp"
          refine ⟨aj, Cj, dj, _, rfl, hej6, hdij6, Tj, rfl, fun H7 p7 S7 hp7 => ?_⟩
          walk_at "wp"
          refine ⟨by decide, by decide, fun D hD => ?_⟩
          have ht15 : (hot j).take 15 = (List.range 15).map fun k => decide (j = k) := List.take_left' (by rw [List.length_map, List.length_range])
          rw [ht15] at hp7
          refine LcR.map walk_range (((List.range 15).map fun k => decide (j = k)).map V.bl) hD (by rw [List.length_map, List.length_map, List.length_range]; rfl) (by decide) (fun _ _ => trivial) (fun _ _ _ _ y => yfn_same y) (fun k v y H0 H8 hk s8 yy hy R hR => ?_) (fun H8 s8 hH8 => ?_)
          · obtain ⟨rfl, rfl⟩ := yy
            have hk : k < 15 := hk
            rw [List.getElem?_map, List.getElem?_map, List.getElem?_range hk] at hy
            cases hy
            walk_at "wp"
            have ed : decide ((j : Int) = (k : Int)) = decide (j = k) := decide_eq_decide.mpr (by omega)
            rw [ed]
            exact hR _ (Same.refl _)
          · refine ne_bls (SqL.of (s8 _ _ hp7)) (SqL.of hH8) ⟨false, rfl, ?_⟩
            rw [if_neg (by decide)]
            exact ⟨⟨_, _, rfl⟩, S6.trans (S7.trans s8)⟩
        · exact hN _ _ (by rw [List.length_map, hal] at hI; exact hI)
    · walk_at "wp"
      refine ⟨⟨by decide, by decide, by decide⟩, ⟨by decide, by decide, by decide⟩, sz100 (by decide), fun r1 k1 => ⟨sz100 (by decide), fun r2 k2 => ⟨_, upd_same, by decide, by decide, sz100 (by decide), fun r3 k3 => ⟨_, _, (same_upd k3) _ _ ((same_upd k2) _ _ upd_same), upd_same, sz100 (by decide), fun r4 k4 => ?_⟩⟩⟩⟩
      have Q4 := (same_upd (o := .lst [V.int (10 ^ Int.toNat 59), V.int (10 ^ Int.toNat 59), V.int 4, V.int 10]) k1).trans ((same_upd (o := .lst [V.int 26]) k2).trans ((same_upd (o := .lst (List.replicate (Int.toNat 9) [V.int 26]).flatten) k3).trans (same_upd (o := .lst ([V.int (10 ^ Int.toNat 59), V.int (10 ^ Int.toNat 59), V.int 4, V.int 10] ++ (List.replicate (Int.toNat 9) [V.int 26]).flatten)) k4)))
      refine ⟨c, 400 + (i : Int), r4, [10 ^ 59, 10 ^ 59, 4, 10, 26, 26, 26, 26, 26, 26, 26, 26, 26], rfl, SqL.of upd_same, by omega, by omega, by decide, by decide +kernel, fun H5 pd fs S5 hpd hD hfs => ?_⟩
      have S45 := S4.trans (Q4.trans S5)
      clear S5 Q4 hpd
      obtain ⟨f0, f1, f2, f3, fr, rfl, hfr⟩ : ∃ (f0 f1 f2 f3 : Int) (fr : List Int), fs = f0 :: f1 :: f2 :: f3 :: fr ∧ fr.length = 9 := by
        match fs, hD.1 with
        | f0 :: f1 :: f2 :: f3 :: fr, h => exact ⟨f0, f1, f2, f3, fr, rfl, by have h : fr.length + 4 = 13 := h; omega⟩
      have b0 := hD.2 0 f0 _ rfl rfl
      have b1 := hD.2 1 f1 _ rfl rfl
      have b2 := hD.2 2 f2 _ rfl rfl
      have b3 := hD.2 3 f3 _ rfl rfl
      have bl26 : ∀ z ∈ fr, 0 ≤ z ∧ z < 26 := fun z hz => by
        obtain ⟨k, hk, ek⟩ := List.mem_iff_getElem.mp hz
        have e1 : (f0 :: f1 :: f2 :: f3 :: fr)[k + 4]? = some z := by show fr[k]? = some z; rw [List.getElem?_eq_getElem hk, ek]
        have e2 : ([10 ^ 59, 10 ^ 59, 4, 10, 26, 26, 26, 26, 26, 26, 26, 26, 26] : List Int)[k + 4]? = some 26 := by
          have hk9 : k < 9 := by omega
          show ([26, 26, 26, 26, 26, 26, 26, 26, 26] : List Int)[k]? = some 26
          match k, hk9 with
          | 0, _ => rfl
          | 1, _ => rfl
          | 2, _ => rfl
          | 3, _ => rfl
          | 4, _ => rfl
          | 5, _ => rfl
          | 6, _ => rfl
          | 7, _ => rfl
          | 8, _ => rfl
        exact hD.2 (k + 4) z 26 e1 e2
      have m0 : smV (.int f0) := by
        have e : (10 : Int) ^ 59 = ((10 ^ 59 : Nat) : Int) := by decide +kernel
        have h := b0
        rw [e] at h
        show f0.natAbs < 10 ^ 60
        exact Nat.lt_of_lt_of_le (show f0.natAbs < 10 ^ 59 by omega) (by decide +kernel)
      have m1 : smV (.int f1) := by
        have e : (10 : Int) ^ 59 = ((10 ^ 59 : Nat) : Int) := by decide +kernel
        have h := b1
        rw [e] at h
        show f1.natAbs < 10 ^ 60
        exact Nat.lt_of_lt_of_le (show f1.natAbs < 10 ^ 59 by omega) (by decide +kernel)
      obtain ⟨o1, ho1, so1⟩ : ∃ o1, atI [V.int f0, V.non] (if decide (V.int f2 = V.int 0) = true then 1 else 0) = some (optV o1) ∧ smV (optV o1) := by
        by_cases h : decide (V.int f2 = V.int 0) = true
        · rw [if_pos h]
          exact ⟨none, rfl, trivial⟩
        · rw [if_neg h]
          exact ⟨some f0, rfl, m0⟩
      obtain ⟨o2, ho2, so2⟩ : ∃ o2, atI [V.int f1, V.non] (if decide (f2 < 2) = true then 1 else 0) = some (optV o2) ∧ smV (optV o2) := by
        by_cases h : decide (f2 < 2) = true
        · rw [if_pos h]
          exact ⟨none, rfl, trivial⟩
        · rw [if_neg h]
          exact ⟨some f1, rfl, m1⟩
      walk_at "wp"
      refine ⟨_, _, SqL.of hfs, atI_nat (j := 0) rfl, sz100 (by decide), fun p6 n6 => ?_⟩
      have S6 := same_upd (o := .lst [V.int f0, V.non]) n6
      have E6 : upd H5 p6 (.lst [V.int f0, V.non]) p6 = some (.lst [V.int f0, V.non]) := upd_same
      generalize upd H5 p6 (.lst [V.int f0, V.non]) = H6 at S6 E6 ⊢
      have hfs6 := S6 _ _ hfs
      refine ⟨_, _, SqL.of hfs6, atI_nat (j := 2) rfl, rfl, _, _, SqL.of E6, ho1, _, _, SqL.of hfs6, atI_nat (j := 1) rfl, sz100 (by decide), fun p7 n7 => ?_⟩
      have S7 := same_upd (o := .lst [V.int f1, V.non]) n7
      have E7 : upd H6 p7 (.lst [V.int f1, V.non]) p7 = some (.lst [V.int f1, V.non]) := upd_same
      generalize upd H6 p7 (.lst [V.int f1, V.non]) = H7 at S7 E7 ⊢
      have hfs7 := S7 _ _ hfs6
      refine ⟨_, _, SqL.of hfs7, atI_nat (j := 2) rfl, ?_⟩
      walk_at "wp"
      refine ⟨_, _, SqL.of E7, ho2, ⟨_, rfl⟩, _, _, SqL.of hfs7, atI_nat (j := 3) rfl, ?_⟩
      walk_at "wp"
      obtain ⟨m3, rfl⟩ : ∃ m : Nat, f3 = (m : Int) := ⟨f3.toNat, by omega⟩
      refine ⟨_, SqL.of hfs7, fun p8 n8 => ?_⟩
      obtain ⟨gs, hgs, hgl, hgb⟩ : ∃ gs : List Int, cutV ((f0 :: f1 :: f2 :: (m3 : Int) :: fr).map V.int) (some 4) (some (4 + (m3 : Int))) = gs.map V.int ∧ gs.length ≤ 9 ∧ ∀ z ∈ gs, 0 ≤ z ∧ z < 26 := by
        refine ⟨fr.take m3, ?_, by rw [List.length_take]; omega, fun z hz => bl26 z (List.mem_of_mem_take hz)⟩
        rw [show (4 : Int) + (m3 : Int) = ((4 + m3 : Nat) : Int) by omega]
        rw [show cutV ((f0 :: f1 :: f2 :: (m3 : Int) :: fr).map V.int) (some 4) (some ((4 + m3 : Nat) : Int)) = (((f0 :: f1 :: f2 :: (m3 : Int) :: fr).map V.int).drop 4).take (4 + m3 - 4) from cutV_nat _ 4 (4 + m3), List.map_take]
        rw [show 4 + m3 - 4 = m3 by omega]
        rfl
      rw [hgs]
      have S8 := same_upd (o := .lst (gs.map V.int)) n8
      have E8 : upd H7 p8 (.lst (gs.map V.int)) p8 = some (.lst (gs.map V.int)) := upd_same
      generalize upd H7 p8 (.lst (gs.map V.int)) = H8 at S8 E8 ⊢
      refine ⟨⟨_, SqL.of E8⟩, fun D hD => ?_⟩
      refine LcR.by (walk_list (xs := gs.map V.int)) (fun k H' => Same H8 H' ∧ ∃ ys : List Str, H' D = some (.lst (ys.map V.str)) ∧ ys.length ≤ k ∧ (ys.map (·.length)).sum ≤ k) ⟨same_upd hD, [], upd_same, Nat.le_refl _, Nat.le_refl _⟩ (fun k H' _ h => h.1.seq (SqL.of E8)) (fun k x H0 H9 hk hI yy => ?_) (fun H9 hI => ?_)
      · obtain ⟨rfl, hx⟩ := yy
        obtain ⟨S9, ys, ea, hyl, hys⟩ := hI
        rw [List.length_map] at hk
        have hgk : gs[k]? = some gs[k] := List.getElem?_eq_getElem hk
        have hgk2 := hgb _ (List.getElem_mem hk)
        generalize gs[k] = z at hgk hgk2
        rw [List.getElem?_map, hgk] at hx
        cases hx
        have hab : (Str.ofString "abcdefghijklmnopqrstuvwxyz").cps.toList.length = 26 := by decide +kernel
        have hat : atI (Str.ofString "abcdefghijklmnopqrstuvwxyz").cps.toList z = some ((Str.ofString "abcdefghijklmnopqrstuvwxyz").cps.toList[z.toNat]'(by rw [hab]; omega)) := atI_of hgk2.1 (List.getElem?_eq_getElem _)
        walk_at "wp"
        refine ⟨_, _, _, rfl, rfl, ?_, hat, ?_⟩
        · rw [sizeLine_eq]
          decide +kernel
        refine ⟨_, ea, sz100l (by rw [List.length_map]; omega), same_mut S9 hD, ys ++ [_], by rw [upd_same, List.map_append]; rfl, by rw [List.length_append, List.length_singleton]; omega, ?_⟩
        rw [List.map_append, List.sum_append]
        show _ + (1 + 0) ≤ k + 1
        omega
      · obtain ⟨S9, ys, ea, hyl, hys⟩ := hI
        rw [List.length_map] at hyl hys
        have l0 : (Str.ofString "").length = 0 := by decide +kernel
        have S59 := S6.trans (S7.trans (S8.trans S9))
        have hfs9 := S59 _ _ hfs
        refine ⟨_, _, ys, rfl, rfl, .inl (SqL.of ea), by rw [l0]; omega, _, _, SqL.of hfs9, atI_nat (j := 0) rfl, _, _, SqL.of hfs9, atI_nat (j := 1) rfl, ?_⟩
        refine ⟨optV o1, optV o2, .int f0, .int f1, _, rfl, so1, so2, m0, m1, fun HA pf SA hA => ?_⟩
        exact hN _ _ ⟨pd, pf, _, o1, o2, f0, f1, _, rfl, S45.trans (S59.trans SA), SqL.of (SA _ _ hfs9), m0, m1, hA⟩
theorem ok_law {f : Addr} {fd : FuncData} {C0 C1 C2 C3 C4 C5 C6 C7 C8 C9 C10 C11 C12 C13 C14 CB : Addr} (F : Fun K "law" "law" s_law f fd) (B : Bi mg) (Bv : mg "ValueError" = none) (M_BakeError : mg "BakeError" = some (.ref CB)) (D_numbers : Def P w K mg base "_law_numbers" 1 ["_law_cell", "_law_salt", "_law_sizes"] (spNumbers K)) (D_kinds : Def P w K mg base "_law_kinds" 1 ["_law_e"] (spKinds K [C0, C1, C2, C3, C4, C5, C6, C7, C8, C9, C10, C11, C12, C13, C14, CB])) (D_all : Def P w K mg base "_law_all" 3 ["_law_one", "_law_other", "_law_row", "_law_last", "_law_text"] (spAll K [C0, C1, C2, C3, C4, C5, C6, C7, C8, C9, C10, C11, C12, C13, C14, CB])) (D_fields : Def P w K mg base "_law_fields" 1 ["_law_found"] (spFields K [C0, C1, C2, C3, C4, C5, C6, C7, C8, C9, C10, C11, C12, C13, C14, CB])) (D_raised : Def P w K mg base "_law_raised" 3 ["_law_one", "_law_other"] spRaised)
    (T0 : Kinds K C0 [C0, C1, C2, C3, C4, C5, C6, C7, C8, C9, C10, C11, C12, C13, C14, CB] [true, false, false, false, false, false, false, false, false, false, false, false, false, false, false, true]) (T1 : Kinds K C1 [C0, C1, C2, C3, C4, C5, C6, C7, C8, C9, C10, C11, C12, C13, C14, CB] [false, true, false, false, false, false, false, false, false, false, false, false, false, false, false, true]) (T2 : Kinds K C2 [C0, C1, C2, C3, C4, C5, C6, C7, C8, C9, C10, C11, C12, C13, C14, CB] [false, false, true, false, false, false, false, false, false, false, false, false, false, false, false, true]) (T3 : Kinds K C3 [C0, C1, C2, C3, C4, C5, C6, C7, C8, C9, C10, C11, C12, C13, C14, CB] [false, false, false, true, false, false, false, false, false, false, false, false, false, false, false, true]) (T4 : Kinds K C4 [C0, C1, C2, C3, C4, C5, C6, C7, C8, C9, C10, C11, C12, C13, C14, CB] [false, false, false, false, true, false, false, false, false, false, false, false, false, false, false, true]) (T5 : Kinds K C5 [C0, C1, C2, C3, C4, C5, C6, C7, C8, C9, C10, C11, C12, C13, C14, CB] [false, false, false, false, false, true, false, false, false, false, false, false, false, false, false, true]) (T6 : Kinds K C6 [C0, C1, C2, C3, C4, C5, C6, C7, C8, C9, C10, C11, C12, C13, C14, CB] [false, false, false, false, false, false, true, false, false, false, false, false, false, false, false, true]) (T7 : Kinds K C7 [C0, C1, C2, C3, C4, C5, C6, C7, C8, C9, C10, C11, C12, C13, C14, CB] [false, false, false, false, false, false, false, true, false, false, false, false, false, false, false, true]) (T8 : Kinds K C8 [C0, C1, C2, C3, C4, C5, C6, C7, C8, C9, C10, C11, C12, C13, C14, CB] [false, false, false, false, false, false, false, false, true, false, false, false, false, false, false, true]) (T9 : Kinds K C9 [C0, C1, C2, C3, C4, C5, C6, C7, C8, C9, C10, C11, C12, C13, C14, CB] [false, false, false, false, false, false, false, false, false, true, false, false, false, false, false, true]) (T10 : Kinds K C10 [C0, C1, C2, C3, C4, C5, C6, C7, C8, C9, C10, C11, C12, C13, C14, CB] [false, false, false, false, false, false, false, false, false, false, true, false, false, false, false, true]) (T11 : Kinds K C11 [C0, C1, C2, C3, C4, C5, C6, C7, C8, C9, C10, C11, C12, C13, C14, CB] [false, false, false, false, false, false, false, false, false, false, false, true, false, false, false, true]) (T12 : Kinds K C12 [C0, C1, C2, C3, C4, C5, C6, C7, C8, C9, C10, C11, C12, C13, C14, CB] [false, false, false, false, false, false, false, false, false, false, false, false, true, false, false, true]) (T13 : Kinds K C13 [C0, C1, C2, C3, C4, C5, C6, C7, C8, C9, C10, C11, C12, C13, C14, CB] [false, false, false, false, false, false, false, false, false, false, false, false, false, true, false, true]) (T14 : Kinds K C14 [C0, C1, C2, C3, C4, C5, C6, C7, C8, C9, C10, C11, C12, C13, C14, CB] [false, false, false, false, false, false, false, false, false, false, false, false, false, false, true, true]) : FnOk P w K mg base CX0 4 f fd ["_law_script"] (spLaw K) := by
  refine ok_law0 F B Bv M_BakeError D_numbers D_kinds D_all D_fields D_raised fun i c hi e => ?_
  match i, hi, e with
  | 0, _, e => cases e; exact T0
  | 1, _, e => cases e; exact T1
  | 2, _, e => cases e; exact T2
  | 3, _, e => cases e; exact T3
  | 4, _, e => cases e; exact T4
  | 5, _, e => cases e; exact T5
  | 6, _, e => cases e; exact T6
  | 7, _, e => cases e; exact T7
  | 8, _, e => cases e; exact T8
  | 9, _, e => cases e; exact T9
  | 10, _, e => cases e; exact T10
  | 11, _, e => cases e; exact T11
  | 12, _, e => cases e; exact T12
  | 13, _, e => cases e; exact T13
  | 14, _, e => cases e; exact T14
  | _ + 15, h, _ => exact absurd h (by omega)
end
end Bk

namespace Bk
open PySem PySem.Spec PyProof.Rows L2
theorem all_mk {l : PySem.W.OpenLaw} {w : World} {K : PySem.W.Frag} {h : Heap} {mg : Str → Option Value} {fa f1 f2 f3 f4 f5 f6 : Addr} (X : K.In h) (G : h.Ns mainGlobals mg) (hfa : mg "law" = some (.ref fa))
    {od1 an1 od2 an2 od3 an3 od4 an4 od5 an5 od6 an6 : Option Addr} {sl1 sl2 sl3 sl4 sl5 sl6 : Array (Option Value)} {oc1 kV1 dc1 pm1 cd1 ct1 oc2 kV2 dc2 pm2 cd2 ct2 oc3 kV3 dc3 pm3 cd3 ct3 oc4 kV4 dc4 pm4 cd4 ct4 oc5 kV5 dc5 pm5 cd5 ct5 oc6 kV6 dc6 pm6 cd6 ct6 : Value} 
    (a1 : PySem.W.nsIn K mainGlobals "_law_numbers" = some (some (.ref f1))) (l1 : K.lookup f1 = some ⟨oc1, od1, .func (PySem.W.fnOf "_law_numbers" "_law_numbers" (defArgs s_numbers) (defBody s_numbers) (defScope s_numbers) .none kV1 dc1 pm1 an1 cd1 ct1), sl1⟩) (c1 : PySem.W.codeIn K cd1 "_law_numbers" = true) (k1 : PySem.W.keepIn K (.ref f1) = true)
    (a2 : PySem.W.nsIn K mainGlobals "_law_kinds" = some (some (.ref f2))) (l2 : K.lookup f2 = some ⟨oc2, od2, .func (PySem.W.fnOf "_law_kinds" "_law_kinds" (defArgs s_kinds) (defBody s_kinds) (defScope s_kinds) .none kV2 dc2 pm2 an2 cd2 ct2), sl2⟩) (c2 : PySem.W.codeIn K cd2 "_law_kinds" = true) (k2 : PySem.W.keepIn K (.ref f2) = true)
    (a3 : PySem.W.nsIn K mainGlobals "_law_all" = some (some (.ref f3))) (l3 : K.lookup f3 = some ⟨oc3, od3, .func (PySem.W.fnOf "_law_all" "_law_all" (defArgs s_all) (defBody s_all) (defScope s_all) .none kV3 dc3 pm3 an3 cd3 ct3), sl3⟩) (c3 : PySem.W.codeIn K cd3 "_law_all" = true) (k3 : PySem.W.keepIn K (.ref f3) = true)
    (a4 : PySem.W.nsIn K mainGlobals "_law_fields" = some (some (.ref f4))) (l4 : K.lookup f4 = some ⟨oc4, od4, .func (PySem.W.fnOf "_law_fields" "_law_fields" (defArgs s_fields) (defBody s_fields) (defScope s_fields) .none kV4 dc4 pm4 an4 cd4 ct4), sl4⟩) (c4 : PySem.W.codeIn K cd4 "_law_fields" = true) (k4 : PySem.W.keepIn K (.ref f4) = true)
    (a5 : PySem.W.nsIn K mainGlobals "_law_raised" = some (some (.ref f5))) (l5 : K.lookup f5 = some ⟨oc5, od5, .func (PySem.W.fnOf "_law_raised" "_law_raised" (defArgs s_raised) (defBody s_raised) (defScope s_raised) .none kV5 dc5 pm5 an5 cd5 ct5), sl5⟩) (c5 : PySem.W.codeIn K cd5 "_law_raised" = true) (k5 : PySem.W.keepIn K (.ref f5) = true)
    (a6 : PySem.W.nsIn K mainGlobals "law" = some (some (.ref f6))) (l6 : K.lookup f6 = some ⟨oc6, od6, .func (PySem.W.fnOf "law" "law" (defArgs s_law) (defBody s_law) (defScope s_law) .none kV6 dc6 pm6 an6 cd6 ct6), sl6⟩) (c6 : PySem.W.codeIn K cd6 "law" = true) (k6 : PySem.W.keepIn K (.ref f6) = true)
    {C_NoBakery CB_NoBakery fI_NoBakery N_NoBakery cda_NoBakery cc_NoBakery : Addr} {nm_NoBakery q_NoBakery file_NoBakery : Str} {bs_NoBakery sub_NoBakery : List Value} {sn_NoBakery : List Str} {ab_NoBakery : Bool} {col_NoBakery : Option Bool} {dd_NoBakery odI_NoBakery anI_NoBakery cdd_NoBakery cld_NoBakery : Option Addr} {m0_NoBakery m1_NoBakery m2_NoBakery m3_NoBakery m5_NoBakery : Option Value} {ocI_NoBakery kVI_NoBakery dcI_NoBakery pmI_NoBakery ctI_NoBakery ccl_NoBakery cl_NoBakery : Value} {oslI_NoBakery ccs_NoBakery csl_NoBakery : Array (Option Value)} {vsI_NoBakery : Array Value} {tf_NoBakery : Tok}
    (aC_NoBakery : PySem.W.nsIn K mainGlobals "NoBakery" = some (some (.ref C_NoBakery)))
    (xL_NoBakery : K.lookup C_NoBakery = some (excClassObj nm_NoBakery q_NoBakery C_NoBakery N_NoBakery bs_NoBakery [.ref CB_NoBakery, .type "ValueError", .type "Exception", .type "BaseException", .type "object"] true sn_NoBakery sub_NoBakery ab_NoBakery col_NoBakery dd_NoBakery m0_NoBakery m1_NoBakery m2_NoBakery m3_NoBakery m5_NoBakery "ValueError.__new__"))
    (sa_NoBakery : PySem.W.findIn K (.ref C_NoBakery) "__setattr__" = some (some (.builtin "object.__setattr__")))
    (eC_NoBakery : PySem.W.subIn K (.ref C_NoBakery) (.type "BaseException") = some true)
    (tC_NoBakery : PySem.W.typeIn K (.ref C_NoBakery) = some (.type "type"))
    (kC_NoBakery : PySem.W.keepIn K (.ref C_NoBakery) = true)
    (iC_NoBakery : PySem.W.isClsIn K C_NoBakery = true)
    (sC_NoBakery : PySem.W.subIn K (.ref C_NoBakery) (.ref C_NoBakery) = some true)
    (a1_NoBakery : PySem.W.findIn K (.ref C_NoBakery) "__init__" = some (some (.ref fI_NoBakery)))
    (t1_NoBakery : PySem.W.typeIn K (.ref fI_NoBakery) = some (.type "function"))
    (l1_NoBakery : K.lookup fI_NoBakery = some ⟨ocI_NoBakery, odI_NoBakery, .func (PySem.W.ksFn "__init__" "NoBakery.__init__" (defArgs (clsM s_cNoBakery 0)) (defBody (clsM s_cNoBakery 0)) (defScope (clsM s_cNoBakery 0)) .none kVI_NoBakery dcI_NoBakery pmI_NoBakery anI_NoBakery (.ref cda_NoBakery) ctI_NoBakery cc_NoBakery), oslI_NoBakery⟩)
    (c1_NoBakery : PySem.W.codeIn K (.ref cda_NoBakery) "NoBakery.__init__" = true)
    (n1_NoBakery : PySem.W.findIn K (.ref C_NoBakery) "good" = some none)
    (n2_NoBakery : PySem.W.findIn K (.ref C_NoBakery) "day" = some none)
    (uc_NoBakery : K.lookup cda_NoBakery = some ⟨ccl_NoBakery, cdd_NoBakery, .fields vsI_NoBakery, ccs_NoBakery⟩)
    (uf_NoBakery : vsI_NoBakery[2]? = some (.str file_NoBakery tf_NoBakery))
    (ue_NoBakery : ((l.prog.main.file : Str) == file_NoBakery) = true)
    (ul_NoBakery : K.lookup cc_NoBakery = some ⟨cl_NoBakery, cld_NoBakery, .cell (some (.ref C_NoBakery)), csl_NoBakery⟩)
    (us_NoBakery : PySem.W.ks_superIn K C_NoBakery C_NoBakery "__init__" = some (some (.builtin "ValueError.__init__")))
    (um_NoBakery : PySem.W.mroIn K C_NoBakery (.ref C_NoBakery) = some true)
    (ub_NoBakery : PySem.W.subIn K (.ref C_NoBakery) (.type "ValueError") = some true)
    (up_NoBakery : PySem.W.nsIn K cStatics "thirdparty.any" = some none)
    (ut_NoBakery : (l.prog.main.scope.names.lookup ("super" : Str)).isSome = false)
    {C_TooMuch CB_TooMuch fI_TooMuch N_TooMuch cda_TooMuch cc_TooMuch : Addr} {nm_TooMuch q_TooMuch file_TooMuch : Str} {bs_TooMuch sub_TooMuch : List Value} {sn_TooMuch : List Str} {ab_TooMuch : Bool} {col_TooMuch : Option Bool} {dd_TooMuch odI_TooMuch anI_TooMuch cdd_TooMuch cld_TooMuch : Option Addr} {m0_TooMuch m1_TooMuch m2_TooMuch m3_TooMuch m5_TooMuch : Option Value} {ocI_TooMuch kVI_TooMuch dcI_TooMuch pmI_TooMuch ctI_TooMuch ccl_TooMuch cl_TooMuch : Value} {oslI_TooMuch ccs_TooMuch csl_TooMuch : Array (Option Value)} {vsI_TooMuch : Array Value} {tf_TooMuch : Tok}
    (aC_TooMuch : PySem.W.nsIn K mainGlobals "TooMuch" = some (some (.ref C_TooMuch)))
    (xL_TooMuch : K.lookup C_TooMuch = some (excClassObj nm_TooMuch q_TooMuch C_TooMuch N_TooMuch bs_TooMuch [.ref CB_TooMuch, .type "ValueError", .type "Exception", .type "BaseException", .type "object"] true sn_TooMuch sub_TooMuch ab_TooMuch col_TooMuch dd_TooMuch m0_TooMuch m1_TooMuch m2_TooMuch m3_TooMuch m5_TooMuch "ValueError.__new__"))
    (sa_TooMuch : PySem.W.findIn K (.ref C_TooMuch) "__setattr__" = some (some (.builtin "object.__setattr__")))
    (eC_TooMuch : PySem.W.subIn K (.ref C_TooMuch) (.type "BaseException") = some true)
    (tC_TooMuch : PySem.W.typeIn K (.ref C_TooMuch) = some (.type "type"))
    (kC_TooMuch : PySem.W.keepIn K (.ref C_TooMuch) = true)
    (iC_TooMuch : PySem.W.isClsIn K C_TooMuch = true)
    (sC_TooMuch : PySem.W.subIn K (.ref C_TooMuch) (.ref C_TooMuch) = some true)
    (a1_TooMuch : PySem.W.findIn K (.ref C_TooMuch) "__init__" = some (some (.ref fI_TooMuch)))
    (t1_TooMuch : PySem.W.typeIn K (.ref fI_TooMuch) = some (.type "function"))
    (l1_TooMuch : K.lookup fI_TooMuch = some ⟨ocI_TooMuch, odI_TooMuch, .func (PySem.W.ksFn "__init__" "TooMuch.__init__" (defArgs (clsM s_cTooMuch 0)) (defBody (clsM s_cTooMuch 0)) (defScope (clsM s_cTooMuch 0)) .none kVI_TooMuch dcI_TooMuch pmI_TooMuch anI_TooMuch (.ref cda_TooMuch) ctI_TooMuch cc_TooMuch), oslI_TooMuch⟩)
    (c1_TooMuch : PySem.W.codeIn K (.ref cda_TooMuch) "TooMuch.__init__" = true)
    (n1_TooMuch : PySem.W.findIn K (.ref C_TooMuch) "first" = some none)
    (n2_TooMuch : PySem.W.findIn K (.ref C_TooMuch) "last" = some none)
    (uc_TooMuch : K.lookup cda_TooMuch = some ⟨ccl_TooMuch, cdd_TooMuch, .fields vsI_TooMuch, ccs_TooMuch⟩)
    (uf_TooMuch : vsI_TooMuch[2]? = some (.str file_TooMuch tf_TooMuch))
    (ue_TooMuch : ((l.prog.main.file : Str) == file_TooMuch) = true)
    (ul_TooMuch : K.lookup cc_TooMuch = some ⟨cl_TooMuch, cld_TooMuch, .cell (some (.ref C_TooMuch)), csl_TooMuch⟩)
    (us_TooMuch : PySem.W.ks_superIn K C_TooMuch C_TooMuch "__init__" = some (some (.builtin "ValueError.__init__")))
    (um_TooMuch : PySem.W.mroIn K C_TooMuch (.ref C_TooMuch) = some true)
    (ub_TooMuch : PySem.W.subIn K (.ref C_TooMuch) (.type "ValueError") = some true)
    (up_TooMuch : PySem.W.nsIn K cStatics "thirdparty.any" = some none)
    (ut_TooMuch : (l.prog.main.scope.names.lookup ("super" : Str)).isSome = false)
    {C_NoDoughs CB_NoDoughs fI_NoDoughs N_NoDoughs cda_NoDoughs cc_NoDoughs : Addr} {nm_NoDoughs q_NoDoughs file_NoDoughs : Str} {bs_NoDoughs sub_NoDoughs : List Value} {sn_NoDoughs : List Str} {ab_NoDoughs : Bool} {col_NoDoughs : Option Bool} {dd_NoDoughs odI_NoDoughs anI_NoDoughs cdd_NoDoughs cld_NoDoughs : Option Addr} {m0_NoDoughs m1_NoDoughs m2_NoDoughs m3_NoDoughs m5_NoDoughs : Option Value} {ocI_NoDoughs kVI_NoDoughs dcI_NoDoughs pmI_NoDoughs ctI_NoDoughs ccl_NoDoughs cl_NoDoughs : Value} {oslI_NoDoughs ccs_NoDoughs csl_NoDoughs : Array (Option Value)} {vsI_NoDoughs : Array Value} {tf_NoDoughs : Tok}
    (aC_NoDoughs : PySem.W.nsIn K mainGlobals "NoDoughs" = some (some (.ref C_NoDoughs)))
    (xL_NoDoughs : K.lookup C_NoDoughs = some (excClassObj nm_NoDoughs q_NoDoughs C_NoDoughs N_NoDoughs bs_NoDoughs [.ref CB_NoDoughs, .type "ValueError", .type "Exception", .type "BaseException", .type "object"] true sn_NoDoughs sub_NoDoughs ab_NoDoughs col_NoDoughs dd_NoDoughs m0_NoDoughs m1_NoDoughs m2_NoDoughs m3_NoDoughs m5_NoDoughs "ValueError.__new__"))
    (sa_NoDoughs : PySem.W.findIn K (.ref C_NoDoughs) "__setattr__" = some (some (.builtin "object.__setattr__")))
    (eC_NoDoughs : PySem.W.subIn K (.ref C_NoDoughs) (.type "BaseException") = some true)
    (tC_NoDoughs : PySem.W.typeIn K (.ref C_NoDoughs) = some (.type "type"))
    (kC_NoDoughs : PySem.W.keepIn K (.ref C_NoDoughs) = true)
    (iC_NoDoughs : PySem.W.isClsIn K C_NoDoughs = true)
    (sC_NoDoughs : PySem.W.subIn K (.ref C_NoDoughs) (.ref C_NoDoughs) = some true)
    (a1_NoDoughs : PySem.W.findIn K (.ref C_NoDoughs) "__init__" = some (some (.ref fI_NoDoughs)))
    (t1_NoDoughs : PySem.W.typeIn K (.ref fI_NoDoughs) = some (.type "function"))
    (l1_NoDoughs : K.lookup fI_NoDoughs = some ⟨ocI_NoDoughs, odI_NoDoughs, .func (PySem.W.ksFn "__init__" "NoDoughs.__init__" (defArgs (clsM s_cNoDoughs 0)) (defBody (clsM s_cNoDoughs 0)) (defScope (clsM s_cNoDoughs 0)) .none kVI_NoDoughs dcI_NoDoughs pmI_NoDoughs anI_NoDoughs (.ref cda_NoDoughs) ctI_NoDoughs cc_NoDoughs), oslI_NoDoughs⟩)
    (c1_NoDoughs : PySem.W.codeIn K (.ref cda_NoDoughs) "NoDoughs.__init__" = true)
    (n1_NoDoughs : PySem.W.findIn K (.ref C_NoDoughs) "day" = some none)
    (n2_NoDoughs : PySem.W.findIn K (.ref C_NoDoughs) "day" = some none)
    (uc_NoDoughs : K.lookup cda_NoDoughs = some ⟨ccl_NoDoughs, cdd_NoDoughs, .fields vsI_NoDoughs, ccs_NoDoughs⟩)
    (uf_NoDoughs : vsI_NoDoughs[2]? = some (.str file_NoDoughs tf_NoDoughs))
    (ue_NoDoughs : ((l.prog.main.file : Str) == file_NoDoughs) = true)
    (ul_NoDoughs : K.lookup cc_NoDoughs = some ⟨cl_NoDoughs, cld_NoDoughs, .cell (some (.ref C_NoDoughs)), csl_NoDoughs⟩)
    (us_NoDoughs : PySem.W.ks_superIn K C_NoDoughs C_NoDoughs "__init__" = some (some (.builtin "ValueError.__init__")))
    (um_NoDoughs : PySem.W.mroIn K C_NoDoughs (.ref C_NoDoughs) = some true)
    (ub_NoDoughs : PySem.W.subIn K (.ref C_NoDoughs) (.type "ValueError") = some true)
    (up_NoDoughs : PySem.W.nsIn K cStatics "thirdparty.any" = some none)
    (ut_NoDoughs : (l.prog.main.scope.names.lookup ("super" : Str)).isSome = false)
    {C_NoText CB_NoText fI_NoText N_NoText cda_NoText cc_NoText : Addr} {nm_NoText q_NoText file_NoText : Str} {bs_NoText sub_NoText : List Value} {sn_NoText : List Str} {ab_NoText : Bool} {col_NoText : Option Bool} {dd_NoText odI_NoText anI_NoText cdd_NoText cld_NoText : Option Addr} {m0_NoText m1_NoText m2_NoText m3_NoText m5_NoText : Option Value} {ocI_NoText kVI_NoText dcI_NoText pmI_NoText ctI_NoText ccl_NoText cl_NoText : Value} {oslI_NoText ccs_NoText csl_NoText : Array (Option Value)} {vsI_NoText : Array Value} {tf_NoText : Tok}
    (aC_NoText : PySem.W.nsIn K mainGlobals "NoText" = some (some (.ref C_NoText)))
    (xL_NoText : K.lookup C_NoText = some (excClassObj nm_NoText q_NoText C_NoText N_NoText bs_NoText [.ref CB_NoText, .type "ValueError", .type "Exception", .type "BaseException", .type "object"] true sn_NoText sub_NoText ab_NoText col_NoText dd_NoText m0_NoText m1_NoText m2_NoText m3_NoText m5_NoText "ValueError.__new__"))
    (sa_NoText : PySem.W.findIn K (.ref C_NoText) "__setattr__" = some (some (.builtin "object.__setattr__")))
    (eC_NoText : PySem.W.subIn K (.ref C_NoText) (.type "BaseException") = some true)
    (tC_NoText : PySem.W.typeIn K (.ref C_NoText) = some (.type "type"))
    (kC_NoText : PySem.W.keepIn K (.ref C_NoText) = true)
    (iC_NoText : PySem.W.isClsIn K C_NoText = true)
    (sC_NoText : PySem.W.subIn K (.ref C_NoText) (.ref C_NoText) = some true)
    (a1_NoText : PySem.W.findIn K (.ref C_NoText) "__init__" = some (some (.ref fI_NoText)))
    (t1_NoText : PySem.W.typeIn K (.ref fI_NoText) = some (.type "function"))
    (l1_NoText : K.lookup fI_NoText = some ⟨ocI_NoText, odI_NoText, .func (PySem.W.ksFn "__init__" "NoText.__init__" (defArgs (clsM s_cNoText 0)) (defBody (clsM s_cNoText 0)) (defScope (clsM s_cNoText 0)) .none kVI_NoText dcI_NoText pmI_NoText anI_NoText (.ref cda_NoText) ctI_NoText cc_NoText), oslI_NoText⟩)
    (c1_NoText : PySem.W.codeIn K (.ref cda_NoText) "NoText.__init__" = true)
    (n1_NoText : PySem.W.findIn K (.ref C_NoText) "row" = some none)
    (n2_NoText : PySem.W.findIn K (.ref C_NoText) "row" = some none)
    (uc_NoText : K.lookup cda_NoText = some ⟨ccl_NoText, cdd_NoText, .fields vsI_NoText, ccs_NoText⟩)
    (uf_NoText : vsI_NoText[2]? = some (.str file_NoText tf_NoText))
    (ue_NoText : ((l.prog.main.file : Str) == file_NoText) = true)
    (ul_NoText : K.lookup cc_NoText = some ⟨cl_NoText, cld_NoText, .cell (some (.ref C_NoText)), csl_NoText⟩)
    (us_NoText : PySem.W.ks_superIn K C_NoText C_NoText "__init__" = some (some (.builtin "ValueError.__init__")))
    (um_NoText : PySem.W.mroIn K C_NoText (.ref C_NoText) = some true)
    (ub_NoText : PySem.W.subIn K (.ref C_NoText) (.type "ValueError") = some true)
    (up_NoText : PySem.W.nsIn K cStatics "thirdparty.any" = some none)
    (ut_NoText : (l.prog.main.scope.names.lookup ("super" : Str)).isSome = false)
    {C_NoBack : Addr}
    (aC_NoBack : PySem.W.nsIn K mainGlobals "NoBack" = some (some (.ref C_NoBack)))
    {C_NoDay : Addr}
    (aC_NoDay : PySem.W.nsIn K mainGlobals "NoDay" = some (some (.ref C_NoDay)))
    {C_NoDays : Addr}
    (aC_NoDays : PySem.W.nsIn K mainGlobals "NoDays" = some (some (.ref C_NoDays)))
    {C_NoGood : Addr}
    (aC_NoGood : PySem.W.nsIn K mainGlobals "NoGood" = some (some (.ref C_NoGood)))
    {C_NoName : Addr}
    (aC_NoName : PySem.W.nsIn K mainGlobals "NoName" = some (some (.ref C_NoName)))
    {C_NoNumber : Addr}
    (aC_NoNumber : PySem.W.nsIn K mainGlobals "NoNumber" = some (some (.ref C_NoNumber)))
    {C_NoPart : Addr}
    (aC_NoPart : PySem.W.nsIn K mainGlobals "NoPart" = some (some (.ref C_NoPart)))
    {C_NoRow : Addr}
    (aC_NoRow : PySem.W.nsIn K mainGlobals "NoRow" = some (some (.ref C_NoRow)))
    {C_NotPlain : Addr}
    (aC_NotPlain : PySem.W.nsIn K mainGlobals "NotPlain" = some (some (.ref C_NotPlain)))
    {C_NotSteady : Addr}
    (aC_NotSteady : PySem.W.nsIn K mainGlobals "NotSteady" = some (some (.ref C_NotSteady)))
    {C_TooMany : Addr}
    (aC_TooMany : PySem.W.nsIn K mainGlobals "TooMany" = some (some (.ref C_TooMany)))
    {C_BakeError : Addr}
    (aC_BakeError : PySem.W.nsIn K mainGlobals "BakeError" = some (some (.ref C_BakeError)))
    (q1_NoBack : PySem.W.excIn K C_NoBack [.type "ValueError", .type "Exception", .type "BaseException", .type "object"] "ValueError.__new__" = true)
    (kC_NoBack : PySem.W.keepIn K (.ref C_NoBack) = true)
    (eC_NoBack : PySem.W.subIn K (.ref C_NoBack) (.type "BaseException") = some true)
    (tC_NoBack : PySem.W.typeIn K (.ref C_NoBack) = some (.type "type"))
    (q1_NoDay : PySem.W.excIn K C_NoDay [.type "ValueError", .type "Exception", .type "BaseException", .type "object"] "ValueError.__new__" = true)
    (kC_NoDay : PySem.W.keepIn K (.ref C_NoDay) = true)
    (eC_NoDay : PySem.W.subIn K (.ref C_NoDay) (.type "BaseException") = some true)
    (tC_NoDay : PySem.W.typeIn K (.ref C_NoDay) = some (.type "type"))
    (q1_NoDays : PySem.W.excIn K C_NoDays [.type "ValueError", .type "Exception", .type "BaseException", .type "object"] "ValueError.__new__" = true)
    (kC_NoDays : PySem.W.keepIn K (.ref C_NoDays) = true)
    (eC_NoDays : PySem.W.subIn K (.ref C_NoDays) (.type "BaseException") = some true)
    (tC_NoDays : PySem.W.typeIn K (.ref C_NoDays) = some (.type "type"))
    (q1_NoGood : PySem.W.excIn K C_NoGood [.type "ValueError", .type "Exception", .type "BaseException", .type "object"] "ValueError.__new__" = true)
    (kC_NoGood : PySem.W.keepIn K (.ref C_NoGood) = true)
    (eC_NoGood : PySem.W.subIn K (.ref C_NoGood) (.type "BaseException") = some true)
    (tC_NoGood : PySem.W.typeIn K (.ref C_NoGood) = some (.type "type"))
    (q1_NoName : PySem.W.excIn K C_NoName [.type "ValueError", .type "Exception", .type "BaseException", .type "object"] "ValueError.__new__" = true)
    (kC_NoName : PySem.W.keepIn K (.ref C_NoName) = true)
    (eC_NoName : PySem.W.subIn K (.ref C_NoName) (.type "BaseException") = some true)
    (tC_NoName : PySem.W.typeIn K (.ref C_NoName) = some (.type "type"))
    (q1_NoNumber : PySem.W.excIn K C_NoNumber [.type "ValueError", .type "Exception", .type "BaseException", .type "object"] "ValueError.__new__" = true)
    (kC_NoNumber : PySem.W.keepIn K (.ref C_NoNumber) = true)
    (eC_NoNumber : PySem.W.subIn K (.ref C_NoNumber) (.type "BaseException") = some true)
    (tC_NoNumber : PySem.W.typeIn K (.ref C_NoNumber) = some (.type "type"))
    (q1_NoPart : PySem.W.excIn K C_NoPart [.type "ValueError", .type "Exception", .type "BaseException", .type "object"] "ValueError.__new__" = true)
    (kC_NoPart : PySem.W.keepIn K (.ref C_NoPart) = true)
    (eC_NoPart : PySem.W.subIn K (.ref C_NoPart) (.type "BaseException") = some true)
    (tC_NoPart : PySem.W.typeIn K (.ref C_NoPart) = some (.type "type"))
    (q1_NoRow : PySem.W.excIn K C_NoRow [.type "ValueError", .type "Exception", .type "BaseException", .type "object"] "ValueError.__new__" = true)
    (kC_NoRow : PySem.W.keepIn K (.ref C_NoRow) = true)
    (eC_NoRow : PySem.W.subIn K (.ref C_NoRow) (.type "BaseException") = some true)
    (tC_NoRow : PySem.W.typeIn K (.ref C_NoRow) = some (.type "type"))
    (q1_NotPlain : PySem.W.excIn K C_NotPlain [.type "ValueError", .type "Exception", .type "BaseException", .type "object"] "ValueError.__new__" = true)
    (kC_NotPlain : PySem.W.keepIn K (.ref C_NotPlain) = true)
    (eC_NotPlain : PySem.W.subIn K (.ref C_NotPlain) (.type "BaseException") = some true)
    (tC_NotPlain : PySem.W.typeIn K (.ref C_NotPlain) = some (.type "type"))
    (q1_NotSteady : PySem.W.excIn K C_NotSteady [.type "ValueError", .type "Exception", .type "BaseException", .type "object"] "ValueError.__new__" = true)
    (kC_NotSteady : PySem.W.keepIn K (.ref C_NotSteady) = true)
    (eC_NotSteady : PySem.W.subIn K (.ref C_NotSteady) (.type "BaseException") = some true)
    (tC_NotSteady : PySem.W.typeIn K (.ref C_NotSteady) = some (.type "type"))
    (q1_TooMany : PySem.W.excIn K C_TooMany [.type "ValueError", .type "Exception", .type "BaseException", .type "object"] "ValueError.__new__" = true)
    (kC_TooMany : PySem.W.keepIn K (.ref C_TooMany) = true)
    (eC_TooMany : PySem.W.subIn K (.ref C_TooMany) (.type "BaseException") = some true)
    (tC_TooMany : PySem.W.typeIn K (.ref C_TooMany) = some (.type "type"))
    (x0_NoBack : PySem.W.findIn K (.ref C_NoBack) "__getattribute__" = some (some (.builtin "BaseException.__getattribute__")))
    (x1_NoBack : PySem.W.findIn K (.ref C_NoBack) "__getattr__" = some none)
    (x2_NoBack : PySem.W.subIn K (.ref C_NoBack) (.type "BaseException") = some true)
    (x3_NoBack : PySem.W.hasDictIn K C_NoBack = true)
    (x4_NoBack : PySem.W.findIn K (.ref C_NoBack) "__class__" = some (some (.builtin "object.__class__")))
    (x5_NoBack : PySem.W.specialIn K (.builtin "object.__class__") "__get__" = some (some (.builtin "getset_descriptor.__get__")))
    (x6_NoBack : PySem.W.takesIn K (.builtin "object.__class__") = some true)
    (x7_NoBack : PySem.W.mroIn K C_NoBack (.type "object") = some true)
    (xb_NoBack : PySem.W.kitOne K (.ref C_NoBack) (.type "ValueError") = some true)
    (xm_NoBack : PySem.W.exmOne K (.ref C_NoBack) (.ref C_BakeError) = some true)
    (kt_NoBack_NoBack : PySem.W.kitOne K (.ref C_NoBack) (.ref C_NoBack) = some true)
    (kt_NoBack_NoBakery : PySem.W.kitOne K (.ref C_NoBack) (.ref C_NoBakery) = some false)
    (kt_NoBack_NoDay : PySem.W.kitOne K (.ref C_NoBack) (.ref C_NoDay) = some false)
    (kt_NoBack_NoDays : PySem.W.kitOne K (.ref C_NoBack) (.ref C_NoDays) = some false)
    (kt_NoBack_NoDoughs : PySem.W.kitOne K (.ref C_NoBack) (.ref C_NoDoughs) = some false)
    (kt_NoBack_NoGood : PySem.W.kitOne K (.ref C_NoBack) (.ref C_NoGood) = some false)
    (kt_NoBack_NoName : PySem.W.kitOne K (.ref C_NoBack) (.ref C_NoName) = some false)
    (kt_NoBack_NoNumber : PySem.W.kitOne K (.ref C_NoBack) (.ref C_NoNumber) = some false)
    (kt_NoBack_NoPart : PySem.W.kitOne K (.ref C_NoBack) (.ref C_NoPart) = some false)
    (kt_NoBack_NoRow : PySem.W.kitOne K (.ref C_NoBack) (.ref C_NoRow) = some false)
    (kt_NoBack_NoText : PySem.W.kitOne K (.ref C_NoBack) (.ref C_NoText) = some false)
    (kt_NoBack_NotPlain : PySem.W.kitOne K (.ref C_NoBack) (.ref C_NotPlain) = some false)
    (kt_NoBack_NotSteady : PySem.W.kitOne K (.ref C_NoBack) (.ref C_NotSteady) = some false)
    (kt_NoBack_TooMany : PySem.W.kitOne K (.ref C_NoBack) (.ref C_TooMany) = some false)
    (kt_NoBack_TooMuch : PySem.W.kitOne K (.ref C_NoBack) (.ref C_TooMuch) = some false)
    (kt_NoBack_BakeError : PySem.W.kitOne K (.ref C_NoBack) (.ref C_BakeError) = some true)
    (x0_NoBakery : PySem.W.findIn K (.ref C_NoBakery) "__getattribute__" = some (some (.builtin "BaseException.__getattribute__")))
    (x1_NoBakery : PySem.W.findIn K (.ref C_NoBakery) "__getattr__" = some none)
    (x2_NoBakery : PySem.W.subIn K (.ref C_NoBakery) (.type "BaseException") = some true)
    (x3_NoBakery : PySem.W.hasDictIn K C_NoBakery = true)
    (x4_NoBakery : PySem.W.findIn K (.ref C_NoBakery) "__class__" = some (some (.builtin "object.__class__")))
    (x5_NoBakery : PySem.W.specialIn K (.builtin "object.__class__") "__get__" = some (some (.builtin "getset_descriptor.__get__")))
    (x6_NoBakery : PySem.W.takesIn K (.builtin "object.__class__") = some true)
    (x7_NoBakery : PySem.W.mroIn K C_NoBakery (.type "object") = some true)
    (xb_NoBakery : PySem.W.kitOne K (.ref C_NoBakery) (.type "ValueError") = some true)
    (xm_NoBakery : PySem.W.exmOne K (.ref C_NoBakery) (.ref C_BakeError) = some true)
    (kt_NoBakery_NoBack : PySem.W.kitOne K (.ref C_NoBakery) (.ref C_NoBack) = some false)
    (kt_NoBakery_NoBakery : PySem.W.kitOne K (.ref C_NoBakery) (.ref C_NoBakery) = some true)
    (kt_NoBakery_NoDay : PySem.W.kitOne K (.ref C_NoBakery) (.ref C_NoDay) = some false)
    (kt_NoBakery_NoDays : PySem.W.kitOne K (.ref C_NoBakery) (.ref C_NoDays) = some false)
    (kt_NoBakery_NoDoughs : PySem.W.kitOne K (.ref C_NoBakery) (.ref C_NoDoughs) = some false)
    (kt_NoBakery_NoGood : PySem.W.kitOne K (.ref C_NoBakery) (.ref C_NoGood) = some false)
    (kt_NoBakery_NoName : PySem.W.kitOne K (.ref C_NoBakery) (.ref C_NoName) = some false)
    (kt_NoBakery_NoNumber : PySem.W.kitOne K (.ref C_NoBakery) (.ref C_NoNumber) = some false)
    (kt_NoBakery_NoPart : PySem.W.kitOne K (.ref C_NoBakery) (.ref C_NoPart) = some false)
    (kt_NoBakery_NoRow : PySem.W.kitOne K (.ref C_NoBakery) (.ref C_NoRow) = some false)
    (kt_NoBakery_NoText : PySem.W.kitOne K (.ref C_NoBakery) (.ref C_NoText) = some false)
    (kt_NoBakery_NotPlain : PySem.W.kitOne K (.ref C_NoBakery) (.ref C_NotPlain) = some false)
    (kt_NoBakery_NotSteady : PySem.W.kitOne K (.ref C_NoBakery) (.ref C_NotSteady) = some false)
    (kt_NoBakery_TooMany : PySem.W.kitOne K (.ref C_NoBakery) (.ref C_TooMany) = some false)
    (kt_NoBakery_TooMuch : PySem.W.kitOne K (.ref C_NoBakery) (.ref C_TooMuch) = some false)
    (kt_NoBakery_BakeError : PySem.W.kitOne K (.ref C_NoBakery) (.ref C_BakeError) = some true)
    (x0_NoDay : PySem.W.findIn K (.ref C_NoDay) "__getattribute__" = some (some (.builtin "BaseException.__getattribute__")))
    (x1_NoDay : PySem.W.findIn K (.ref C_NoDay) "__getattr__" = some none)
    (x2_NoDay : PySem.W.subIn K (.ref C_NoDay) (.type "BaseException") = some true)
    (x3_NoDay : PySem.W.hasDictIn K C_NoDay = true)
    (x4_NoDay : PySem.W.findIn K (.ref C_NoDay) "__class__" = some (some (.builtin "object.__class__")))
    (x5_NoDay : PySem.W.specialIn K (.builtin "object.__class__") "__get__" = some (some (.builtin "getset_descriptor.__get__")))
    (x6_NoDay : PySem.W.takesIn K (.builtin "object.__class__") = some true)
    (x7_NoDay : PySem.W.mroIn K C_NoDay (.type "object") = some true)
    (xb_NoDay : PySem.W.kitOne K (.ref C_NoDay) (.type "ValueError") = some true)
    (xm_NoDay : PySem.W.exmOne K (.ref C_NoDay) (.ref C_BakeError) = some true)
    (kt_NoDay_NoBack : PySem.W.kitOne K (.ref C_NoDay) (.ref C_NoBack) = some false)
    (kt_NoDay_NoBakery : PySem.W.kitOne K (.ref C_NoDay) (.ref C_NoBakery) = some false)
    (kt_NoDay_NoDay : PySem.W.kitOne K (.ref C_NoDay) (.ref C_NoDay) = some true)
    (kt_NoDay_NoDays : PySem.W.kitOne K (.ref C_NoDay) (.ref C_NoDays) = some false)
    (kt_NoDay_NoDoughs : PySem.W.kitOne K (.ref C_NoDay) (.ref C_NoDoughs) = some false)
    (kt_NoDay_NoGood : PySem.W.kitOne K (.ref C_NoDay) (.ref C_NoGood) = some false)
    (kt_NoDay_NoName : PySem.W.kitOne K (.ref C_NoDay) (.ref C_NoName) = some false)
    (kt_NoDay_NoNumber : PySem.W.kitOne K (.ref C_NoDay) (.ref C_NoNumber) = some false)
    (kt_NoDay_NoPart : PySem.W.kitOne K (.ref C_NoDay) (.ref C_NoPart) = some false)
    (kt_NoDay_NoRow : PySem.W.kitOne K (.ref C_NoDay) (.ref C_NoRow) = some false)
    (kt_NoDay_NoText : PySem.W.kitOne K (.ref C_NoDay) (.ref C_NoText) = some false)
    (kt_NoDay_NotPlain : PySem.W.kitOne K (.ref C_NoDay) (.ref C_NotPlain) = some false)
    (kt_NoDay_NotSteady : PySem.W.kitOne K (.ref C_NoDay) (.ref C_NotSteady) = some false)
    (kt_NoDay_TooMany : PySem.W.kitOne K (.ref C_NoDay) (.ref C_TooMany) = some false)
    (kt_NoDay_TooMuch : PySem.W.kitOne K (.ref C_NoDay) (.ref C_TooMuch) = some false)
    (kt_NoDay_BakeError : PySem.W.kitOne K (.ref C_NoDay) (.ref C_BakeError) = some true)
    (x0_NoDays : PySem.W.findIn K (.ref C_NoDays) "__getattribute__" = some (some (.builtin "BaseException.__getattribute__")))
    (x1_NoDays : PySem.W.findIn K (.ref C_NoDays) "__getattr__" = some none)
    (x2_NoDays : PySem.W.subIn K (.ref C_NoDays) (.type "BaseException") = some true)
    (x3_NoDays : PySem.W.hasDictIn K C_NoDays = true)
    (x4_NoDays : PySem.W.findIn K (.ref C_NoDays) "__class__" = some (some (.builtin "object.__class__")))
    (x5_NoDays : PySem.W.specialIn K (.builtin "object.__class__") "__get__" = some (some (.builtin "getset_descriptor.__get__")))
    (x6_NoDays : PySem.W.takesIn K (.builtin "object.__class__") = some true)
    (x7_NoDays : PySem.W.mroIn K C_NoDays (.type "object") = some true)
    (xb_NoDays : PySem.W.kitOne K (.ref C_NoDays) (.type "ValueError") = some true)
    (xm_NoDays : PySem.W.exmOne K (.ref C_NoDays) (.ref C_BakeError) = some true)
    (kt_NoDays_NoBack : PySem.W.kitOne K (.ref C_NoDays) (.ref C_NoBack) = some false)
    (kt_NoDays_NoBakery : PySem.W.kitOne K (.ref C_NoDays) (.ref C_NoBakery) = some false)
    (kt_NoDays_NoDay : PySem.W.kitOne K (.ref C_NoDays) (.ref C_NoDay) = some false)
    (kt_NoDays_NoDays : PySem.W.kitOne K (.ref C_NoDays) (.ref C_NoDays) = some true)
    (kt_NoDays_NoDoughs : PySem.W.kitOne K (.ref C_NoDays) (.ref C_NoDoughs) = some false)
    (kt_NoDays_NoGood : PySem.W.kitOne K (.ref C_NoDays) (.ref C_NoGood) = some false)
    (kt_NoDays_NoName : PySem.W.kitOne K (.ref C_NoDays) (.ref C_NoName) = some false)
    (kt_NoDays_NoNumber : PySem.W.kitOne K (.ref C_NoDays) (.ref C_NoNumber) = some false)
    (kt_NoDays_NoPart : PySem.W.kitOne K (.ref C_NoDays) (.ref C_NoPart) = some false)
    (kt_NoDays_NoRow : PySem.W.kitOne K (.ref C_NoDays) (.ref C_NoRow) = some false)
    (kt_NoDays_NoText : PySem.W.kitOne K (.ref C_NoDays) (.ref C_NoText) = some false)
    (kt_NoDays_NotPlain : PySem.W.kitOne K (.ref C_NoDays) (.ref C_NotPlain) = some false)
    (kt_NoDays_NotSteady : PySem.W.kitOne K (.ref C_NoDays) (.ref C_NotSteady) = some false)
    (kt_NoDays_TooMany : PySem.W.kitOne K (.ref C_NoDays) (.ref C_TooMany) = some false)
    (kt_NoDays_TooMuch : PySem.W.kitOne K (.ref C_NoDays) (.ref C_TooMuch) = some false)
    (kt_NoDays_BakeError : PySem.W.kitOne K (.ref C_NoDays) (.ref C_BakeError) = some true)
    (x0_NoDoughs : PySem.W.findIn K (.ref C_NoDoughs) "__getattribute__" = some (some (.builtin "BaseException.__getattribute__")))
    (x1_NoDoughs : PySem.W.findIn K (.ref C_NoDoughs) "__getattr__" = some none)
    (x2_NoDoughs : PySem.W.subIn K (.ref C_NoDoughs) (.type "BaseException") = some true)
    (x3_NoDoughs : PySem.W.hasDictIn K C_NoDoughs = true)
    (x4_NoDoughs : PySem.W.findIn K (.ref C_NoDoughs) "__class__" = some (some (.builtin "object.__class__")))
    (x5_NoDoughs : PySem.W.specialIn K (.builtin "object.__class__") "__get__" = some (some (.builtin "getset_descriptor.__get__")))
    (x6_NoDoughs : PySem.W.takesIn K (.builtin "object.__class__") = some true)
    (x7_NoDoughs : PySem.W.mroIn K C_NoDoughs (.type "object") = some true)
    (xb_NoDoughs : PySem.W.kitOne K (.ref C_NoDoughs) (.type "ValueError") = some true)
    (xm_NoDoughs : PySem.W.exmOne K (.ref C_NoDoughs) (.ref C_BakeError) = some true)
    (kt_NoDoughs_NoBack : PySem.W.kitOne K (.ref C_NoDoughs) (.ref C_NoBack) = some false)
    (kt_NoDoughs_NoBakery : PySem.W.kitOne K (.ref C_NoDoughs) (.ref C_NoBakery) = some false)
    (kt_NoDoughs_NoDay : PySem.W.kitOne K (.ref C_NoDoughs) (.ref C_NoDay) = some false)
    (kt_NoDoughs_NoDays : PySem.W.kitOne K (.ref C_NoDoughs) (.ref C_NoDays) = some false)
    (kt_NoDoughs_NoDoughs : PySem.W.kitOne K (.ref C_NoDoughs) (.ref C_NoDoughs) = some true)
    (kt_NoDoughs_NoGood : PySem.W.kitOne K (.ref C_NoDoughs) (.ref C_NoGood) = some false)
    (kt_NoDoughs_NoName : PySem.W.kitOne K (.ref C_NoDoughs) (.ref C_NoName) = some false)
    (kt_NoDoughs_NoNumber : PySem.W.kitOne K (.ref C_NoDoughs) (.ref C_NoNumber) = some false)
    (kt_NoDoughs_NoPart : PySem.W.kitOne K (.ref C_NoDoughs) (.ref C_NoPart) = some false)
    (kt_NoDoughs_NoRow : PySem.W.kitOne K (.ref C_NoDoughs) (.ref C_NoRow) = some false)
    (kt_NoDoughs_NoText : PySem.W.kitOne K (.ref C_NoDoughs) (.ref C_NoText) = some false)
    (kt_NoDoughs_NotPlain : PySem.W.kitOne K (.ref C_NoDoughs) (.ref C_NotPlain) = some false)
    (kt_NoDoughs_NotSteady : PySem.W.kitOne K (.ref C_NoDoughs) (.ref C_NotSteady) = some false)
    (kt_NoDoughs_TooMany : PySem.W.kitOne K (.ref C_NoDoughs) (.ref C_TooMany) = some false)
    (kt_NoDoughs_TooMuch : PySem.W.kitOne K (.ref C_NoDoughs) (.ref C_TooMuch) = some false)
    (kt_NoDoughs_BakeError : PySem.W.kitOne K (.ref C_NoDoughs) (.ref C_BakeError) = some true)
    (x0_NoGood : PySem.W.findIn K (.ref C_NoGood) "__getattribute__" = some (some (.builtin "BaseException.__getattribute__")))
    (x1_NoGood : PySem.W.findIn K (.ref C_NoGood) "__getattr__" = some none)
    (x2_NoGood : PySem.W.subIn K (.ref C_NoGood) (.type "BaseException") = some true)
    (x3_NoGood : PySem.W.hasDictIn K C_NoGood = true)
    (x4_NoGood : PySem.W.findIn K (.ref C_NoGood) "__class__" = some (some (.builtin "object.__class__")))
    (x5_NoGood : PySem.W.specialIn K (.builtin "object.__class__") "__get__" = some (some (.builtin "getset_descriptor.__get__")))
    (x6_NoGood : PySem.W.takesIn K (.builtin "object.__class__") = some true)
    (x7_NoGood : PySem.W.mroIn K C_NoGood (.type "object") = some true)
    (xb_NoGood : PySem.W.kitOne K (.ref C_NoGood) (.type "ValueError") = some true)
    (xm_NoGood : PySem.W.exmOne K (.ref C_NoGood) (.ref C_BakeError) = some true)
    (kt_NoGood_NoBack : PySem.W.kitOne K (.ref C_NoGood) (.ref C_NoBack) = some false)
    (kt_NoGood_NoBakery : PySem.W.kitOne K (.ref C_NoGood) (.ref C_NoBakery) = some false)
    (kt_NoGood_NoDay : PySem.W.kitOne K (.ref C_NoGood) (.ref C_NoDay) = some false)
    (kt_NoGood_NoDays : PySem.W.kitOne K (.ref C_NoGood) (.ref C_NoDays) = some false)
    (kt_NoGood_NoDoughs : PySem.W.kitOne K (.ref C_NoGood) (.ref C_NoDoughs) = some false)
    (kt_NoGood_NoGood : PySem.W.kitOne K (.ref C_NoGood) (.ref C_NoGood) = some true)
    (kt_NoGood_NoName : PySem.W.kitOne K (.ref C_NoGood) (.ref C_NoName) = some false)
    (kt_NoGood_NoNumber : PySem.W.kitOne K (.ref C_NoGood) (.ref C_NoNumber) = some false)
    (kt_NoGood_NoPart : PySem.W.kitOne K (.ref C_NoGood) (.ref C_NoPart) = some false)
    (kt_NoGood_NoRow : PySem.W.kitOne K (.ref C_NoGood) (.ref C_NoRow) = some false)
    (kt_NoGood_NoText : PySem.W.kitOne K (.ref C_NoGood) (.ref C_NoText) = some false)
    (kt_NoGood_NotPlain : PySem.W.kitOne K (.ref C_NoGood) (.ref C_NotPlain) = some false)
    (kt_NoGood_NotSteady : PySem.W.kitOne K (.ref C_NoGood) (.ref C_NotSteady) = some false)
    (kt_NoGood_TooMany : PySem.W.kitOne K (.ref C_NoGood) (.ref C_TooMany) = some false)
    (kt_NoGood_TooMuch : PySem.W.kitOne K (.ref C_NoGood) (.ref C_TooMuch) = some false)
    (kt_NoGood_BakeError : PySem.W.kitOne K (.ref C_NoGood) (.ref C_BakeError) = some true)
    (x0_NoName : PySem.W.findIn K (.ref C_NoName) "__getattribute__" = some (some (.builtin "BaseException.__getattribute__")))
    (x1_NoName : PySem.W.findIn K (.ref C_NoName) "__getattr__" = some none)
    (x2_NoName : PySem.W.subIn K (.ref C_NoName) (.type "BaseException") = some true)
    (x3_NoName : PySem.W.hasDictIn K C_NoName = true)
    (x4_NoName : PySem.W.findIn K (.ref C_NoName) "__class__" = some (some (.builtin "object.__class__")))
    (x5_NoName : PySem.W.specialIn K (.builtin "object.__class__") "__get__" = some (some (.builtin "getset_descriptor.__get__")))
    (x6_NoName : PySem.W.takesIn K (.builtin "object.__class__") = some true)
    (x7_NoName : PySem.W.mroIn K C_NoName (.type "object") = some true)
    (xb_NoName : PySem.W.kitOne K (.ref C_NoName) (.type "ValueError") = some true)
    (xm_NoName : PySem.W.exmOne K (.ref C_NoName) (.ref C_BakeError) = some true)
    (kt_NoName_NoBack : PySem.W.kitOne K (.ref C_NoName) (.ref C_NoBack) = some false)
    (kt_NoName_NoBakery : PySem.W.kitOne K (.ref C_NoName) (.ref C_NoBakery) = some false)
    (kt_NoName_NoDay : PySem.W.kitOne K (.ref C_NoName) (.ref C_NoDay) = some false)
    (kt_NoName_NoDays : PySem.W.kitOne K (.ref C_NoName) (.ref C_NoDays) = some false)
    (kt_NoName_NoDoughs : PySem.W.kitOne K (.ref C_NoName) (.ref C_NoDoughs) = some false)
    (kt_NoName_NoGood : PySem.W.kitOne K (.ref C_NoName) (.ref C_NoGood) = some false)
    (kt_NoName_NoName : PySem.W.kitOne K (.ref C_NoName) (.ref C_NoName) = some true)
    (kt_NoName_NoNumber : PySem.W.kitOne K (.ref C_NoName) (.ref C_NoNumber) = some false)
    (kt_NoName_NoPart : PySem.W.kitOne K (.ref C_NoName) (.ref C_NoPart) = some false)
    (kt_NoName_NoRow : PySem.W.kitOne K (.ref C_NoName) (.ref C_NoRow) = some false)
    (kt_NoName_NoText : PySem.W.kitOne K (.ref C_NoName) (.ref C_NoText) = some false)
    (kt_NoName_NotPlain : PySem.W.kitOne K (.ref C_NoName) (.ref C_NotPlain) = some false)
    (kt_NoName_NotSteady : PySem.W.kitOne K (.ref C_NoName) (.ref C_NotSteady) = some false)
    (kt_NoName_TooMany : PySem.W.kitOne K (.ref C_NoName) (.ref C_TooMany) = some false)
    (kt_NoName_TooMuch : PySem.W.kitOne K (.ref C_NoName) (.ref C_TooMuch) = some false)
    (kt_NoName_BakeError : PySem.W.kitOne K (.ref C_NoName) (.ref C_BakeError) = some true)
    (x0_NoNumber : PySem.W.findIn K (.ref C_NoNumber) "__getattribute__" = some (some (.builtin "BaseException.__getattribute__")))
    (x1_NoNumber : PySem.W.findIn K (.ref C_NoNumber) "__getattr__" = some none)
    (x2_NoNumber : PySem.W.subIn K (.ref C_NoNumber) (.type "BaseException") = some true)
    (x3_NoNumber : PySem.W.hasDictIn K C_NoNumber = true)
    (x4_NoNumber : PySem.W.findIn K (.ref C_NoNumber) "__class__" = some (some (.builtin "object.__class__")))
    (x5_NoNumber : PySem.W.specialIn K (.builtin "object.__class__") "__get__" = some (some (.builtin "getset_descriptor.__get__")))
    (x6_NoNumber : PySem.W.takesIn K (.builtin "object.__class__") = some true)
    (x7_NoNumber : PySem.W.mroIn K C_NoNumber (.type "object") = some true)
    (xb_NoNumber : PySem.W.kitOne K (.ref C_NoNumber) (.type "ValueError") = some true)
    (xm_NoNumber : PySem.W.exmOne K (.ref C_NoNumber) (.ref C_BakeError) = some true)
    (kt_NoNumber_NoBack : PySem.W.kitOne K (.ref C_NoNumber) (.ref C_NoBack) = some false)
    (kt_NoNumber_NoBakery : PySem.W.kitOne K (.ref C_NoNumber) (.ref C_NoBakery) = some false)
    (kt_NoNumber_NoDay : PySem.W.kitOne K (.ref C_NoNumber) (.ref C_NoDay) = some false)
    (kt_NoNumber_NoDays : PySem.W.kitOne K (.ref C_NoNumber) (.ref C_NoDays) = some false)
    (kt_NoNumber_NoDoughs : PySem.W.kitOne K (.ref C_NoNumber) (.ref C_NoDoughs) = some false)
    (kt_NoNumber_NoGood : PySem.W.kitOne K (.ref C_NoNumber) (.ref C_NoGood) = some false)
    (kt_NoNumber_NoName : PySem.W.kitOne K (.ref C_NoNumber) (.ref C_NoName) = some false)
    (kt_NoNumber_NoNumber : PySem.W.kitOne K (.ref C_NoNumber) (.ref C_NoNumber) = some true)
    (kt_NoNumber_NoPart : PySem.W.kitOne K (.ref C_NoNumber) (.ref C_NoPart) = some false)
    (kt_NoNumber_NoRow : PySem.W.kitOne K (.ref C_NoNumber) (.ref C_NoRow) = some false)
    (kt_NoNumber_NoText : PySem.W.kitOne K (.ref C_NoNumber) (.ref C_NoText) = some false)
    (kt_NoNumber_NotPlain : PySem.W.kitOne K (.ref C_NoNumber) (.ref C_NotPlain) = some false)
    (kt_NoNumber_NotSteady : PySem.W.kitOne K (.ref C_NoNumber) (.ref C_NotSteady) = some false)
    (kt_NoNumber_TooMany : PySem.W.kitOne K (.ref C_NoNumber) (.ref C_TooMany) = some false)
    (kt_NoNumber_TooMuch : PySem.W.kitOne K (.ref C_NoNumber) (.ref C_TooMuch) = some false)
    (kt_NoNumber_BakeError : PySem.W.kitOne K (.ref C_NoNumber) (.ref C_BakeError) = some true)
    (x0_NoPart : PySem.W.findIn K (.ref C_NoPart) "__getattribute__" = some (some (.builtin "BaseException.__getattribute__")))
    (x1_NoPart : PySem.W.findIn K (.ref C_NoPart) "__getattr__" = some none)
    (x2_NoPart : PySem.W.subIn K (.ref C_NoPart) (.type "BaseException") = some true)
    (x3_NoPart : PySem.W.hasDictIn K C_NoPart = true)
    (x4_NoPart : PySem.W.findIn K (.ref C_NoPart) "__class__" = some (some (.builtin "object.__class__")))
    (x5_NoPart : PySem.W.specialIn K (.builtin "object.__class__") "__get__" = some (some (.builtin "getset_descriptor.__get__")))
    (x6_NoPart : PySem.W.takesIn K (.builtin "object.__class__") = some true)
    (x7_NoPart : PySem.W.mroIn K C_NoPart (.type "object") = some true)
    (xb_NoPart : PySem.W.kitOne K (.ref C_NoPart) (.type "ValueError") = some true)
    (xm_NoPart : PySem.W.exmOne K (.ref C_NoPart) (.ref C_BakeError) = some true)
    (kt_NoPart_NoBack : PySem.W.kitOne K (.ref C_NoPart) (.ref C_NoBack) = some false)
    (kt_NoPart_NoBakery : PySem.W.kitOne K (.ref C_NoPart) (.ref C_NoBakery) = some false)
    (kt_NoPart_NoDay : PySem.W.kitOne K (.ref C_NoPart) (.ref C_NoDay) = some false)
    (kt_NoPart_NoDays : PySem.W.kitOne K (.ref C_NoPart) (.ref C_NoDays) = some false)
    (kt_NoPart_NoDoughs : PySem.W.kitOne K (.ref C_NoPart) (.ref C_NoDoughs) = some false)
    (kt_NoPart_NoGood : PySem.W.kitOne K (.ref C_NoPart) (.ref C_NoGood) = some false)
    (kt_NoPart_NoName : PySem.W.kitOne K (.ref C_NoPart) (.ref C_NoName) = some false)
    (kt_NoPart_NoNumber : PySem.W.kitOne K (.ref C_NoPart) (.ref C_NoNumber) = some false)
    (kt_NoPart_NoPart : PySem.W.kitOne K (.ref C_NoPart) (.ref C_NoPart) = some true)
    (kt_NoPart_NoRow : PySem.W.kitOne K (.ref C_NoPart) (.ref C_NoRow) = some false)
    (kt_NoPart_NoText : PySem.W.kitOne K (.ref C_NoPart) (.ref C_NoText) = some false)
    (kt_NoPart_NotPlain : PySem.W.kitOne K (.ref C_NoPart) (.ref C_NotPlain) = some false)
    (kt_NoPart_NotSteady : PySem.W.kitOne K (.ref C_NoPart) (.ref C_NotSteady) = some false)
    (kt_NoPart_TooMany : PySem.W.kitOne K (.ref C_NoPart) (.ref C_TooMany) = some false)
    (kt_NoPart_TooMuch : PySem.W.kitOne K (.ref C_NoPart) (.ref C_TooMuch) = some false)
    (kt_NoPart_BakeError : PySem.W.kitOne K (.ref C_NoPart) (.ref C_BakeError) = some true)
    (x0_NoRow : PySem.W.findIn K (.ref C_NoRow) "__getattribute__" = some (some (.builtin "BaseException.__getattribute__")))
    (x1_NoRow : PySem.W.findIn K (.ref C_NoRow) "__getattr__" = some none)
    (x2_NoRow : PySem.W.subIn K (.ref C_NoRow) (.type "BaseException") = some true)
    (x3_NoRow : PySem.W.hasDictIn K C_NoRow = true)
    (x4_NoRow : PySem.W.findIn K (.ref C_NoRow) "__class__" = some (some (.builtin "object.__class__")))
    (x5_NoRow : PySem.W.specialIn K (.builtin "object.__class__") "__get__" = some (some (.builtin "getset_descriptor.__get__")))
    (x6_NoRow : PySem.W.takesIn K (.builtin "object.__class__") = some true)
    (x7_NoRow : PySem.W.mroIn K C_NoRow (.type "object") = some true)
    (xb_NoRow : PySem.W.kitOne K (.ref C_NoRow) (.type "ValueError") = some true)
    (xm_NoRow : PySem.W.exmOne K (.ref C_NoRow) (.ref C_BakeError) = some true)
    (kt_NoRow_NoBack : PySem.W.kitOne K (.ref C_NoRow) (.ref C_NoBack) = some false)
    (kt_NoRow_NoBakery : PySem.W.kitOne K (.ref C_NoRow) (.ref C_NoBakery) = some false)
    (kt_NoRow_NoDay : PySem.W.kitOne K (.ref C_NoRow) (.ref C_NoDay) = some false)
    (kt_NoRow_NoDays : PySem.W.kitOne K (.ref C_NoRow) (.ref C_NoDays) = some false)
    (kt_NoRow_NoDoughs : PySem.W.kitOne K (.ref C_NoRow) (.ref C_NoDoughs) = some false)
    (kt_NoRow_NoGood : PySem.W.kitOne K (.ref C_NoRow) (.ref C_NoGood) = some false)
    (kt_NoRow_NoName : PySem.W.kitOne K (.ref C_NoRow) (.ref C_NoName) = some false)
    (kt_NoRow_NoNumber : PySem.W.kitOne K (.ref C_NoRow) (.ref C_NoNumber) = some false)
    (kt_NoRow_NoPart : PySem.W.kitOne K (.ref C_NoRow) (.ref C_NoPart) = some false)
    (kt_NoRow_NoRow : PySem.W.kitOne K (.ref C_NoRow) (.ref C_NoRow) = some true)
    (kt_NoRow_NoText : PySem.W.kitOne K (.ref C_NoRow) (.ref C_NoText) = some false)
    (kt_NoRow_NotPlain : PySem.W.kitOne K (.ref C_NoRow) (.ref C_NotPlain) = some false)
    (kt_NoRow_NotSteady : PySem.W.kitOne K (.ref C_NoRow) (.ref C_NotSteady) = some false)
    (kt_NoRow_TooMany : PySem.W.kitOne K (.ref C_NoRow) (.ref C_TooMany) = some false)
    (kt_NoRow_TooMuch : PySem.W.kitOne K (.ref C_NoRow) (.ref C_TooMuch) = some false)
    (kt_NoRow_BakeError : PySem.W.kitOne K (.ref C_NoRow) (.ref C_BakeError) = some true)
    (x0_NoText : PySem.W.findIn K (.ref C_NoText) "__getattribute__" = some (some (.builtin "BaseException.__getattribute__")))
    (x1_NoText : PySem.W.findIn K (.ref C_NoText) "__getattr__" = some none)
    (x2_NoText : PySem.W.subIn K (.ref C_NoText) (.type "BaseException") = some true)
    (x3_NoText : PySem.W.hasDictIn K C_NoText = true)
    (x4_NoText : PySem.W.findIn K (.ref C_NoText) "__class__" = some (some (.builtin "object.__class__")))
    (x5_NoText : PySem.W.specialIn K (.builtin "object.__class__") "__get__" = some (some (.builtin "getset_descriptor.__get__")))
    (x6_NoText : PySem.W.takesIn K (.builtin "object.__class__") = some true)
    (x7_NoText : PySem.W.mroIn K C_NoText (.type "object") = some true)
    (xb_NoText : PySem.W.kitOne K (.ref C_NoText) (.type "ValueError") = some true)
    (xm_NoText : PySem.W.exmOne K (.ref C_NoText) (.ref C_BakeError) = some true)
    (kt_NoText_NoBack : PySem.W.kitOne K (.ref C_NoText) (.ref C_NoBack) = some false)
    (kt_NoText_NoBakery : PySem.W.kitOne K (.ref C_NoText) (.ref C_NoBakery) = some false)
    (kt_NoText_NoDay : PySem.W.kitOne K (.ref C_NoText) (.ref C_NoDay) = some false)
    (kt_NoText_NoDays : PySem.W.kitOne K (.ref C_NoText) (.ref C_NoDays) = some false)
    (kt_NoText_NoDoughs : PySem.W.kitOne K (.ref C_NoText) (.ref C_NoDoughs) = some false)
    (kt_NoText_NoGood : PySem.W.kitOne K (.ref C_NoText) (.ref C_NoGood) = some false)
    (kt_NoText_NoName : PySem.W.kitOne K (.ref C_NoText) (.ref C_NoName) = some false)
    (kt_NoText_NoNumber : PySem.W.kitOne K (.ref C_NoText) (.ref C_NoNumber) = some false)
    (kt_NoText_NoPart : PySem.W.kitOne K (.ref C_NoText) (.ref C_NoPart) = some false)
    (kt_NoText_NoRow : PySem.W.kitOne K (.ref C_NoText) (.ref C_NoRow) = some false)
    (kt_NoText_NoText : PySem.W.kitOne K (.ref C_NoText) (.ref C_NoText) = some true)
    (kt_NoText_NotPlain : PySem.W.kitOne K (.ref C_NoText) (.ref C_NotPlain) = some false)
    (kt_NoText_NotSteady : PySem.W.kitOne K (.ref C_NoText) (.ref C_NotSteady) = some false)
    (kt_NoText_TooMany : PySem.W.kitOne K (.ref C_NoText) (.ref C_TooMany) = some false)
    (kt_NoText_TooMuch : PySem.W.kitOne K (.ref C_NoText) (.ref C_TooMuch) = some false)
    (kt_NoText_BakeError : PySem.W.kitOne K (.ref C_NoText) (.ref C_BakeError) = some true)
    (x0_NotPlain : PySem.W.findIn K (.ref C_NotPlain) "__getattribute__" = some (some (.builtin "BaseException.__getattribute__")))
    (x1_NotPlain : PySem.W.findIn K (.ref C_NotPlain) "__getattr__" = some none)
    (x2_NotPlain : PySem.W.subIn K (.ref C_NotPlain) (.type "BaseException") = some true)
    (x3_NotPlain : PySem.W.hasDictIn K C_NotPlain = true)
    (x4_NotPlain : PySem.W.findIn K (.ref C_NotPlain) "__class__" = some (some (.builtin "object.__class__")))
    (x5_NotPlain : PySem.W.specialIn K (.builtin "object.__class__") "__get__" = some (some (.builtin "getset_descriptor.__get__")))
    (x6_NotPlain : PySem.W.takesIn K (.builtin "object.__class__") = some true)
    (x7_NotPlain : PySem.W.mroIn K C_NotPlain (.type "object") = some true)
    (xb_NotPlain : PySem.W.kitOne K (.ref C_NotPlain) (.type "ValueError") = some true)
    (xm_NotPlain : PySem.W.exmOne K (.ref C_NotPlain) (.ref C_BakeError) = some true)
    (kt_NotPlain_NoBack : PySem.W.kitOne K (.ref C_NotPlain) (.ref C_NoBack) = some false)
    (kt_NotPlain_NoBakery : PySem.W.kitOne K (.ref C_NotPlain) (.ref C_NoBakery) = some false)
    (kt_NotPlain_NoDay : PySem.W.kitOne K (.ref C_NotPlain) (.ref C_NoDay) = some false)
    (kt_NotPlain_NoDays : PySem.W.kitOne K (.ref C_NotPlain) (.ref C_NoDays) = some false)
    (kt_NotPlain_NoDoughs : PySem.W.kitOne K (.ref C_NotPlain) (.ref C_NoDoughs) = some false)
    (kt_NotPlain_NoGood : PySem.W.kitOne K (.ref C_NotPlain) (.ref C_NoGood) = some false)
    (kt_NotPlain_NoName : PySem.W.kitOne K (.ref C_NotPlain) (.ref C_NoName) = some false)
    (kt_NotPlain_NoNumber : PySem.W.kitOne K (.ref C_NotPlain) (.ref C_NoNumber) = some false)
    (kt_NotPlain_NoPart : PySem.W.kitOne K (.ref C_NotPlain) (.ref C_NoPart) = some false)
    (kt_NotPlain_NoRow : PySem.W.kitOne K (.ref C_NotPlain) (.ref C_NoRow) = some false)
    (kt_NotPlain_NoText : PySem.W.kitOne K (.ref C_NotPlain) (.ref C_NoText) = some false)
    (kt_NotPlain_NotPlain : PySem.W.kitOne K (.ref C_NotPlain) (.ref C_NotPlain) = some true)
    (kt_NotPlain_NotSteady : PySem.W.kitOne K (.ref C_NotPlain) (.ref C_NotSteady) = some false)
    (kt_NotPlain_TooMany : PySem.W.kitOne K (.ref C_NotPlain) (.ref C_TooMany) = some false)
    (kt_NotPlain_TooMuch : PySem.W.kitOne K (.ref C_NotPlain) (.ref C_TooMuch) = some false)
    (kt_NotPlain_BakeError : PySem.W.kitOne K (.ref C_NotPlain) (.ref C_BakeError) = some true)
    (x0_NotSteady : PySem.W.findIn K (.ref C_NotSteady) "__getattribute__" = some (some (.builtin "BaseException.__getattribute__")))
    (x1_NotSteady : PySem.W.findIn K (.ref C_NotSteady) "__getattr__" = some none)
    (x2_NotSteady : PySem.W.subIn K (.ref C_NotSteady) (.type "BaseException") = some true)
    (x3_NotSteady : PySem.W.hasDictIn K C_NotSteady = true)
    (x4_NotSteady : PySem.W.findIn K (.ref C_NotSteady) "__class__" = some (some (.builtin "object.__class__")))
    (x5_NotSteady : PySem.W.specialIn K (.builtin "object.__class__") "__get__" = some (some (.builtin "getset_descriptor.__get__")))
    (x6_NotSteady : PySem.W.takesIn K (.builtin "object.__class__") = some true)
    (x7_NotSteady : PySem.W.mroIn K C_NotSteady (.type "object") = some true)
    (xb_NotSteady : PySem.W.kitOne K (.ref C_NotSteady) (.type "ValueError") = some true)
    (xm_NotSteady : PySem.W.exmOne K (.ref C_NotSteady) (.ref C_BakeError) = some true)
    (kt_NotSteady_NoBack : PySem.W.kitOne K (.ref C_NotSteady) (.ref C_NoBack) = some false)
    (kt_NotSteady_NoBakery : PySem.W.kitOne K (.ref C_NotSteady) (.ref C_NoBakery) = some false)
    (kt_NotSteady_NoDay : PySem.W.kitOne K (.ref C_NotSteady) (.ref C_NoDay) = some false)
    (kt_NotSteady_NoDays : PySem.W.kitOne K (.ref C_NotSteady) (.ref C_NoDays) = some false)
    (kt_NotSteady_NoDoughs : PySem.W.kitOne K (.ref C_NotSteady) (.ref C_NoDoughs) = some false)
    (kt_NotSteady_NoGood : PySem.W.kitOne K (.ref C_NotSteady) (.ref C_NoGood) = some false)
    (kt_NotSteady_NoName : PySem.W.kitOne K (.ref C_NotSteady) (.ref C_NoName) = some false)
    (kt_NotSteady_NoNumber : PySem.W.kitOne K (.ref C_NotSteady) (.ref C_NoNumber) = some false)
    (kt_NotSteady_NoPart : PySem.W.kitOne K (.ref C_NotSteady) (.ref C_NoPart) = some false)
    (kt_NotSteady_NoRow : PySem.W.kitOne K (.ref C_NotSteady) (.ref C_NoRow) = some false)
    (kt_NotSteady_NoText : PySem.W.kitOne K (.ref C_NotSteady) (.ref C_NoText) = some false)
    (kt_NotSteady_NotPlain : PySem.W.kitOne K (.ref C_NotSteady) (.ref C_NotPlain) = some false)
    (kt_NotSteady_NotSteady : PySem.W.kitOne K (.ref C_NotSteady) (.ref C_NotSteady) = some true)
    (kt_NotSteady_TooMany : PySem.W.kitOne K (.ref C_NotSteady) (.ref C_TooMany) = some false)
    (kt_NotSteady_TooMuch : PySem.W.kitOne K (.ref C_NotSteady) (.ref C_TooMuch) = some false)
    (kt_NotSteady_BakeError : PySem.W.kitOne K (.ref C_NotSteady) (.ref C_BakeError) = some true)
    (x0_TooMany : PySem.W.findIn K (.ref C_TooMany) "__getattribute__" = some (some (.builtin "BaseException.__getattribute__")))
    (x1_TooMany : PySem.W.findIn K (.ref C_TooMany) "__getattr__" = some none)
    (x2_TooMany : PySem.W.subIn K (.ref C_TooMany) (.type "BaseException") = some true)
    (x3_TooMany : PySem.W.hasDictIn K C_TooMany = true)
    (x4_TooMany : PySem.W.findIn K (.ref C_TooMany) "__class__" = some (some (.builtin "object.__class__")))
    (x5_TooMany : PySem.W.specialIn K (.builtin "object.__class__") "__get__" = some (some (.builtin "getset_descriptor.__get__")))
    (x6_TooMany : PySem.W.takesIn K (.builtin "object.__class__") = some true)
    (x7_TooMany : PySem.W.mroIn K C_TooMany (.type "object") = some true)
    (xb_TooMany : PySem.W.kitOne K (.ref C_TooMany) (.type "ValueError") = some true)
    (xm_TooMany : PySem.W.exmOne K (.ref C_TooMany) (.ref C_BakeError) = some true)
    (kt_TooMany_NoBack : PySem.W.kitOne K (.ref C_TooMany) (.ref C_NoBack) = some false)
    (kt_TooMany_NoBakery : PySem.W.kitOne K (.ref C_TooMany) (.ref C_NoBakery) = some false)
    (kt_TooMany_NoDay : PySem.W.kitOne K (.ref C_TooMany) (.ref C_NoDay) = some false)
    (kt_TooMany_NoDays : PySem.W.kitOne K (.ref C_TooMany) (.ref C_NoDays) = some false)
    (kt_TooMany_NoDoughs : PySem.W.kitOne K (.ref C_TooMany) (.ref C_NoDoughs) = some false)
    (kt_TooMany_NoGood : PySem.W.kitOne K (.ref C_TooMany) (.ref C_NoGood) = some false)
    (kt_TooMany_NoName : PySem.W.kitOne K (.ref C_TooMany) (.ref C_NoName) = some false)
    (kt_TooMany_NoNumber : PySem.W.kitOne K (.ref C_TooMany) (.ref C_NoNumber) = some false)
    (kt_TooMany_NoPart : PySem.W.kitOne K (.ref C_TooMany) (.ref C_NoPart) = some false)
    (kt_TooMany_NoRow : PySem.W.kitOne K (.ref C_TooMany) (.ref C_NoRow) = some false)
    (kt_TooMany_NoText : PySem.W.kitOne K (.ref C_TooMany) (.ref C_NoText) = some false)
    (kt_TooMany_NotPlain : PySem.W.kitOne K (.ref C_TooMany) (.ref C_NotPlain) = some false)
    (kt_TooMany_NotSteady : PySem.W.kitOne K (.ref C_TooMany) (.ref C_NotSteady) = some false)
    (kt_TooMany_TooMany : PySem.W.kitOne K (.ref C_TooMany) (.ref C_TooMany) = some true)
    (kt_TooMany_TooMuch : PySem.W.kitOne K (.ref C_TooMany) (.ref C_TooMuch) = some false)
    (kt_TooMany_BakeError : PySem.W.kitOne K (.ref C_TooMany) (.ref C_BakeError) = some true)
    (x0_TooMuch : PySem.W.findIn K (.ref C_TooMuch) "__getattribute__" = some (some (.builtin "BaseException.__getattribute__")))
    (x1_TooMuch : PySem.W.findIn K (.ref C_TooMuch) "__getattr__" = some none)
    (x2_TooMuch : PySem.W.subIn K (.ref C_TooMuch) (.type "BaseException") = some true)
    (x3_TooMuch : PySem.W.hasDictIn K C_TooMuch = true)
    (x4_TooMuch : PySem.W.findIn K (.ref C_TooMuch) "__class__" = some (some (.builtin "object.__class__")))
    (x5_TooMuch : PySem.W.specialIn K (.builtin "object.__class__") "__get__" = some (some (.builtin "getset_descriptor.__get__")))
    (x6_TooMuch : PySem.W.takesIn K (.builtin "object.__class__") = some true)
    (x7_TooMuch : PySem.W.mroIn K C_TooMuch (.type "object") = some true)
    (xb_TooMuch : PySem.W.kitOne K (.ref C_TooMuch) (.type "ValueError") = some true)
    (xm_TooMuch : PySem.W.exmOne K (.ref C_TooMuch) (.ref C_BakeError) = some true)
    (kt_TooMuch_NoBack : PySem.W.kitOne K (.ref C_TooMuch) (.ref C_NoBack) = some false)
    (kt_TooMuch_NoBakery : PySem.W.kitOne K (.ref C_TooMuch) (.ref C_NoBakery) = some false)
    (kt_TooMuch_NoDay : PySem.W.kitOne K (.ref C_TooMuch) (.ref C_NoDay) = some false)
    (kt_TooMuch_NoDays : PySem.W.kitOne K (.ref C_TooMuch) (.ref C_NoDays) = some false)
    (kt_TooMuch_NoDoughs : PySem.W.kitOne K (.ref C_TooMuch) (.ref C_NoDoughs) = some false)
    (kt_TooMuch_NoGood : PySem.W.kitOne K (.ref C_TooMuch) (.ref C_NoGood) = some false)
    (kt_TooMuch_NoName : PySem.W.kitOne K (.ref C_TooMuch) (.ref C_NoName) = some false)
    (kt_TooMuch_NoNumber : PySem.W.kitOne K (.ref C_TooMuch) (.ref C_NoNumber) = some false)
    (kt_TooMuch_NoPart : PySem.W.kitOne K (.ref C_TooMuch) (.ref C_NoPart) = some false)
    (kt_TooMuch_NoRow : PySem.W.kitOne K (.ref C_TooMuch) (.ref C_NoRow) = some false)
    (kt_TooMuch_NoText : PySem.W.kitOne K (.ref C_TooMuch) (.ref C_NoText) = some false)
    (kt_TooMuch_NotPlain : PySem.W.kitOne K (.ref C_TooMuch) (.ref C_NotPlain) = some false)
    (kt_TooMuch_NotSteady : PySem.W.kitOne K (.ref C_TooMuch) (.ref C_NotSteady) = some false)
    (kt_TooMuch_TooMany : PySem.W.kitOne K (.ref C_TooMuch) (.ref C_TooMany) = some false)
    (kt_TooMuch_TooMuch : PySem.W.kitOne K (.ref C_TooMuch) (.ref C_TooMuch) = some true)
    (kt_TooMuch_BakeError : PySem.W.kitOne K (.ref C_TooMuch) (.ref C_BakeError) = some true)
    (z_len : PySem.W.nsIn K mainGlobals "len" = some none) (z_max : PySem.W.nsIn K mainGlobals "max" = some none) (z_min : PySem.W.nsIn K mainGlobals "min" = some none) (z_range : PySem.W.nsIn K mainGlobals "range" = some none) (z_isinstance : PySem.W.nsIn K mainGlobals "isinstance" = some none) (z_int : PySem.W.nsIn K mainGlobals "int" = some none) (z_bool : PySem.W.nsIn K mainGlobals "bool" = some none) (z_list : PySem.W.nsIn K mainGlobals "list" = some none) (z_tuple : PySem.W.nsIn K mainGlobals "tuple" = some none) (z_all : PySem.W.nsIn K mainGlobals "all" = some none) (z_sum : PySem.W.nsIn K mainGlobals "sum" = some none) (z_repr : PySem.W.nsIn K mainGlobals "repr" = some none) (z_enumerate : PySem.W.nsIn K mainGlobals "enumerate" = some none) (z_ValueError : PySem.W.nsIn K mainGlobals "ValueError" = some none) (z_super : PySem.W.nsIn K mainGlobals "super" = some none)  :
    ∃ fd : FuncData, (∀ (s : Shared) (v : Value), BindsTo s fd ⟨[v], []⟩ [("_law_script", v)]) ∧ ∀ base : Heap, K.In base → base.Ns mainGlobals mg → FnOk l.prog w K mg base CX0 4 fa fd ["_law_script"] (spLaw K) := by
  have e := hfa.symm.trans (PySem.W.mg_of X G a6)
  cases e
  have F1 := fun_mk (st := s_numbers) l1 c1 k1
  have b1 := F1.binds (ps := ["_law_cell", "_law_salt", "_law_sizes"]) fun _ _ _ _ _ _ us hl => match us, hl with | [_, _, _], _ => rfl
  have F2 := fun_mk (st := s_kinds) l2 c2 k2
  have b2 := F2.binds (ps := ["_law_e"]) fun _ _ _ _ _ _ us hl => match us, hl with | [_], _ => rfl
  have F3 := fun_mk (st := s_all) l3 c3 k3
  have b3 := F3.binds (ps := ["_law_one", "_law_other", "_law_row", "_law_last", "_law_text"]) fun _ _ _ _ _ _ us hl => match us, hl with | [_, _, _, _, _], _ => rfl
  have F4 := fun_mk (st := s_fields) l4 c4 k4
  have b4 := F4.binds (ps := ["_law_found"]) fun _ _ _ _ _ _ us hl => match us, hl with | [_], _ => rfl
  have F5 := fun_mk (st := s_raised) l5 c5 k5
  have b5 := F5.binds (ps := ["_law_one", "_law_other"]) fun _ _ _ _ _ _ us hl => match us, hl with | [_, _], _ => rfl
  have F6 := fun_mk (st := s_law) l6 c6 k6
  have b6 := F6.binds (ps := ["_law_script"]) fun _ _ _ _ _ _ us hl => match us, hl with | [_], _ => rfl
  have B : Bi mg := ⟨PySem.W.mg_none_of X G z_len, PySem.W.mg_none_of X G z_max, PySem.W.mg_none_of X G z_min, PySem.W.mg_none_of X G z_range, PySem.W.mg_none_of X G z_isinstance, PySem.W.mg_none_of X G z_int, PySem.W.mg_none_of X G z_bool, PySem.W.mg_none_of X G z_list, PySem.W.mg_none_of X G z_tuple, PySem.W.mg_none_of X G z_all, PySem.W.mg_none_of X G z_sum, PySem.W.mg_none_of X G z_repr, PySem.W.mg_none_of X G z_enumerate⟩
  refine ⟨PySem.W.fnOf "law" "law" (defArgs s_law) (defBody s_law) (defScope s_law) .none kV6 dc6 pm6 an6 cd6 ct6, fun s v => .of_eq rfl, fun base _ _ => ?_⟩
  have Bv := PySem.W.mg_none_of X G z_ValueError
  have OC_NoBakery : OexC K C_NoBakery := ⟨⟨nm_NoBakery, q_NoBakery, N_NoBakery, bs_NoBakery, _, sn_NoBakery, sub_NoBakery, ab_NoBakery, col_NoBakery, dd_NoBakery, m0_NoBakery, m1_NoBakery, m2_NoBakery, m3_NoBakery, m5_NoBakery, xL_NoBakery, rfl⟩, sa_NoBakery, eC_NoBakery, tC_NoBakery, kC_NoBakery⟩
  have NB_NoBakery : Err2 l.prog w K mg base "NoBakery" C_NoBakery "good" "day" := ⟨PySem.W.mg_of X G aC_NoBakery, OC_NoBakery, _, _, a1_NoBakery, t1_NoBakery, .all (fun us hl => match us, hl with | [_, _, _], _ => rfl), ok_nb l1_NoBakery c1_NoBakery OC_NoBakery ⟨⟨_, _, _, _, _, _, uc_NoBakery, uf_NoBakery, ue_NoBakery⟩, ⟨_, _, _, ul_NoBakery⟩, us_NoBakery, um_NoBakery, ub_NoBakery, z_super, up_NoBakery, ut_NoBakery⟩ n1_NoBakery n2_NoBakery⟩
  have HX := exm_own eC_NoBakery iC_NoBakery tC_NoBakery sC_NoBakery
  have OC_TooMuch : OexC K C_TooMuch := ⟨⟨nm_TooMuch, q_TooMuch, N_TooMuch, bs_TooMuch, _, sn_TooMuch, sub_TooMuch, ab_TooMuch, col_TooMuch, dd_TooMuch, m0_TooMuch, m1_TooMuch, m2_TooMuch, m3_TooMuch, m5_TooMuch, xL_TooMuch, rfl⟩, sa_TooMuch, eC_TooMuch, tC_TooMuch, kC_TooMuch⟩
  have NB_TooMuch : Err2 l.prog w K mg base "TooMuch" C_TooMuch "first" "last" := ⟨PySem.W.mg_of X G aC_TooMuch, OC_TooMuch, _, _, a1_TooMuch, t1_TooMuch, .all (fun us hl => match us, hl with | [_, _, _], _ => rfl), ok_tmu l1_TooMuch c1_TooMuch OC_TooMuch ⟨⟨_, _, _, _, _, _, uc_TooMuch, uf_TooMuch, ue_TooMuch⟩, ⟨_, _, _, ul_TooMuch⟩, us_TooMuch, um_TooMuch, ub_TooMuch, z_super, up_TooMuch, ut_TooMuch⟩ n1_TooMuch n2_TooMuch⟩
  have HX2 := exm_own eC_TooMuch iC_TooMuch tC_TooMuch sC_TooMuch
  have OC_NoDoughs : OexC K C_NoDoughs := ⟨⟨nm_NoDoughs, q_NoDoughs, N_NoDoughs, bs_NoDoughs, _, sn_NoDoughs, sub_NoDoughs, ab_NoDoughs, col_NoDoughs, dd_NoDoughs, m0_NoDoughs, m1_NoDoughs, m2_NoDoughs, m3_NoDoughs, m5_NoDoughs, xL_NoDoughs, rfl⟩, sa_NoDoughs, eC_NoDoughs, tC_NoDoughs, kC_NoDoughs⟩
  have NB_NoDoughs : Err1f l.prog w K mg base "NoDoughs" C_NoDoughs "day" := ⟨PySem.W.mg_of X G aC_NoDoughs, OC_NoDoughs, _, _, a1_NoDoughs, t1_NoDoughs, .all (fun us hl => match us, hl with | [_, _], _ => rfl), ok_ndo l1_NoDoughs c1_NoDoughs OC_NoDoughs ⟨⟨_, _, _, _, _, _, uc_NoDoughs, uf_NoDoughs, ue_NoDoughs⟩, ⟨_, _, _, ul_NoDoughs⟩, us_NoDoughs, um_NoDoughs, ub_NoDoughs, z_super, up_NoDoughs, ut_NoDoughs⟩ n1_NoDoughs⟩
  have HX3 := exm_own eC_NoDoughs iC_NoDoughs tC_NoDoughs sC_NoDoughs
  have OC_NoText : OexC K C_NoText := ⟨⟨nm_NoText, q_NoText, N_NoText, bs_NoText, _, sn_NoText, sub_NoText, ab_NoText, col_NoText, dd_NoText, m0_NoText, m1_NoText, m2_NoText, m3_NoText, m5_NoText, xL_NoText, rfl⟩, sa_NoText, eC_NoText, tC_NoText, kC_NoText⟩
  have NB_NoText : Err1f l.prog w K mg base "NoText" C_NoText "row" := ⟨PySem.W.mg_of X G aC_NoText, OC_NoText, _, _, a1_NoText, t1_NoText, .all (fun us hl => match us, hl with | [_, _], _ => rfl), ok_ntx l1_NoText c1_NoText OC_NoText ⟨⟨_, _, _, _, _, _, uc_NoText, uf_NoText, ue_NoText⟩, ⟨_, _, _, ul_NoText⟩, us_NoText, um_NoText, ub_NoText, z_super, up_NoText, ut_NoText⟩ n1_NoText⟩
  have HX4 := exm_own eC_NoText iC_NoText tC_NoText sC_NoText
  have M_NoBack := PySem.W.mg_of X G aC_NoBack
  have M_NoDay := PySem.W.mg_of X G aC_NoDay
  have M_NoDays := PySem.W.mg_of X G aC_NoDays
  have M_NoGood := PySem.W.mg_of X G aC_NoGood
  have M_NoName := PySem.W.mg_of X G aC_NoName
  have M_NoNumber := PySem.W.mg_of X G aC_NoNumber
  have M_NoPart := PySem.W.mg_of X G aC_NoPart
  have M_NoRow := PySem.W.mg_of X G aC_NoRow
  have M_NotPlain := PySem.W.mg_of X G aC_NotPlain
  have M_NotSteady := PySem.W.mg_of X G aC_NotSteady
  have M_TooMany := PySem.W.mg_of X G aC_TooMany
  have M_BakeError := PySem.W.mg_of X G aC_BakeError
  have M_NoBakery := PySem.W.mg_of X G aC_NoBakery
  have M_NoDoughs := PySem.W.mg_of X G aC_NoDoughs
  have M_NoText := PySem.W.mg_of X G aC_NoText
  have M_TooMuch := PySem.W.mg_of X G aC_TooMuch
  have E1_NoBack : Err1 K mg "NoBack" C_NoBack := ⟨M_NoBack, q1_NoBack, kC_NoBack, eC_NoBack, tC_NoBack⟩
  have E1_NoDay : Err1 K mg "NoDay" C_NoDay := ⟨M_NoDay, q1_NoDay, kC_NoDay, eC_NoDay, tC_NoDay⟩
  have E1_NoDays : Err1 K mg "NoDays" C_NoDays := ⟨M_NoDays, q1_NoDays, kC_NoDays, eC_NoDays, tC_NoDays⟩
  have E1_NoGood : Err1 K mg "NoGood" C_NoGood := ⟨M_NoGood, q1_NoGood, kC_NoGood, eC_NoGood, tC_NoGood⟩
  have E1_NoName : Err1 K mg "NoName" C_NoName := ⟨M_NoName, q1_NoName, kC_NoName, eC_NoName, tC_NoName⟩
  have E1_NoNumber : Err1 K mg "NoNumber" C_NoNumber := ⟨M_NoNumber, q1_NoNumber, kC_NoNumber, eC_NoNumber, tC_NoNumber⟩
  have E1_NoPart : Err1 K mg "NoPart" C_NoPart := ⟨M_NoPart, q1_NoPart, kC_NoPart, eC_NoPart, tC_NoPart⟩
  have E1_NoRow : Err1 K mg "NoRow" C_NoRow := ⟨M_NoRow, q1_NoRow, kC_NoRow, eC_NoRow, tC_NoRow⟩
  have E1_NotPlain : Err1 K mg "NotPlain" C_NotPlain := ⟨M_NotPlain, q1_NotPlain, kC_NotPlain, eC_NotPlain, tC_NotPlain⟩
  have E1_NotSteady : Err1 K mg "NotSteady" C_NotSteady := ⟨M_NotSteady, q1_NotSteady, kC_NotSteady, eC_NotSteady, tC_NotSteady⟩
  have E1_TooMany : Err1 K mg "TooMany" C_TooMany := ⟨M_TooMany, q1_TooMany, kC_TooMany, eC_TooMany, tC_TooMany⟩
  have T_NoBack : Kinds K C_NoBack [C_NoBack, C_NoBakery, C_NoDay, C_NoDays, C_NoDoughs, C_NoGood, C_NoName, C_NoNumber, C_NoPart, C_NoRow, C_NoText, C_NotPlain, C_NotSteady, C_TooMany, C_TooMuch, C_BakeError] [true, false, false, false, false, false, false, false, false, false, false, false, false, false, false, true] := ⟨⟨x0_NoBack, x1_NoBack, x2_NoBack, x3_NoBack, x4_NoBack, x5_NoBack, x6_NoBack, x7_NoBack⟩, (fun i c h => match i, h with | 0, h => by cases h; exact ⟨_, rfl, kt_NoBack_NoBack⟩ | 1, h => by cases h; exact ⟨_, rfl, kt_NoBack_NoBakery⟩ | 2, h => by cases h; exact ⟨_, rfl, kt_NoBack_NoDay⟩ | 3, h => by cases h; exact ⟨_, rfl, kt_NoBack_NoDays⟩ | 4, h => by cases h; exact ⟨_, rfl, kt_NoBack_NoDoughs⟩ | 5, h => by cases h; exact ⟨_, rfl, kt_NoBack_NoGood⟩ | 6, h => by cases h; exact ⟨_, rfl, kt_NoBack_NoName⟩ | 7, h => by cases h; exact ⟨_, rfl, kt_NoBack_NoNumber⟩ | 8, h => by cases h; exact ⟨_, rfl, kt_NoBack_NoPart⟩ | 9, h => by cases h; exact ⟨_, rfl, kt_NoBack_NoRow⟩ | 10, h => by cases h; exact ⟨_, rfl, kt_NoBack_NoText⟩ | 11, h => by cases h; exact ⟨_, rfl, kt_NoBack_NotPlain⟩ | 12, h => by cases h; exact ⟨_, rfl, kt_NoBack_NotSteady⟩ | 13, h => by cases h; exact ⟨_, rfl, kt_NoBack_TooMany⟩ | 14, h => by cases h; exact ⟨_, rfl, kt_NoBack_TooMuch⟩ | 15, h => by cases h; exact ⟨_, rfl, kt_NoBack_BakeError⟩ | _ + 16, h => nomatch h), xb_NoBack⟩
  have T_NoBakery : Kinds K C_NoBakery [C_NoBack, C_NoBakery, C_NoDay, C_NoDays, C_NoDoughs, C_NoGood, C_NoName, C_NoNumber, C_NoPart, C_NoRow, C_NoText, C_NotPlain, C_NotSteady, C_TooMany, C_TooMuch, C_BakeError] [false, true, false, false, false, false, false, false, false, false, false, false, false, false, false, true] := ⟨⟨x0_NoBakery, x1_NoBakery, x2_NoBakery, x3_NoBakery, x4_NoBakery, x5_NoBakery, x6_NoBakery, x7_NoBakery⟩, (fun i c h => match i, h with | 0, h => by cases h; exact ⟨_, rfl, kt_NoBakery_NoBack⟩ | 1, h => by cases h; exact ⟨_, rfl, kt_NoBakery_NoBakery⟩ | 2, h => by cases h; exact ⟨_, rfl, kt_NoBakery_NoDay⟩ | 3, h => by cases h; exact ⟨_, rfl, kt_NoBakery_NoDays⟩ | 4, h => by cases h; exact ⟨_, rfl, kt_NoBakery_NoDoughs⟩ | 5, h => by cases h; exact ⟨_, rfl, kt_NoBakery_NoGood⟩ | 6, h => by cases h; exact ⟨_, rfl, kt_NoBakery_NoName⟩ | 7, h => by cases h; exact ⟨_, rfl, kt_NoBakery_NoNumber⟩ | 8, h => by cases h; exact ⟨_, rfl, kt_NoBakery_NoPart⟩ | 9, h => by cases h; exact ⟨_, rfl, kt_NoBakery_NoRow⟩ | 10, h => by cases h; exact ⟨_, rfl, kt_NoBakery_NoText⟩ | 11, h => by cases h; exact ⟨_, rfl, kt_NoBakery_NotPlain⟩ | 12, h => by cases h; exact ⟨_, rfl, kt_NoBakery_NotSteady⟩ | 13, h => by cases h; exact ⟨_, rfl, kt_NoBakery_TooMany⟩ | 14, h => by cases h; exact ⟨_, rfl, kt_NoBakery_TooMuch⟩ | 15, h => by cases h; exact ⟨_, rfl, kt_NoBakery_BakeError⟩ | _ + 16, h => nomatch h), xb_NoBakery⟩
  have T_NoDay : Kinds K C_NoDay [C_NoBack, C_NoBakery, C_NoDay, C_NoDays, C_NoDoughs, C_NoGood, C_NoName, C_NoNumber, C_NoPart, C_NoRow, C_NoText, C_NotPlain, C_NotSteady, C_TooMany, C_TooMuch, C_BakeError] [false, false, true, false, false, false, false, false, false, false, false, false, false, false, false, true] := ⟨⟨x0_NoDay, x1_NoDay, x2_NoDay, x3_NoDay, x4_NoDay, x5_NoDay, x6_NoDay, x7_NoDay⟩, (fun i c h => match i, h with | 0, h => by cases h; exact ⟨_, rfl, kt_NoDay_NoBack⟩ | 1, h => by cases h; exact ⟨_, rfl, kt_NoDay_NoBakery⟩ | 2, h => by cases h; exact ⟨_, rfl, kt_NoDay_NoDay⟩ | 3, h => by cases h; exact ⟨_, rfl, kt_NoDay_NoDays⟩ | 4, h => by cases h; exact ⟨_, rfl, kt_NoDay_NoDoughs⟩ | 5, h => by cases h; exact ⟨_, rfl, kt_NoDay_NoGood⟩ | 6, h => by cases h; exact ⟨_, rfl, kt_NoDay_NoName⟩ | 7, h => by cases h; exact ⟨_, rfl, kt_NoDay_NoNumber⟩ | 8, h => by cases h; exact ⟨_, rfl, kt_NoDay_NoPart⟩ | 9, h => by cases h; exact ⟨_, rfl, kt_NoDay_NoRow⟩ | 10, h => by cases h; exact ⟨_, rfl, kt_NoDay_NoText⟩ | 11, h => by cases h; exact ⟨_, rfl, kt_NoDay_NotPlain⟩ | 12, h => by cases h; exact ⟨_, rfl, kt_NoDay_NotSteady⟩ | 13, h => by cases h; exact ⟨_, rfl, kt_NoDay_TooMany⟩ | 14, h => by cases h; exact ⟨_, rfl, kt_NoDay_TooMuch⟩ | 15, h => by cases h; exact ⟨_, rfl, kt_NoDay_BakeError⟩ | _ + 16, h => nomatch h), xb_NoDay⟩
  have T_NoDays : Kinds K C_NoDays [C_NoBack, C_NoBakery, C_NoDay, C_NoDays, C_NoDoughs, C_NoGood, C_NoName, C_NoNumber, C_NoPart, C_NoRow, C_NoText, C_NotPlain, C_NotSteady, C_TooMany, C_TooMuch, C_BakeError] [false, false, false, true, false, false, false, false, false, false, false, false, false, false, false, true] := ⟨⟨x0_NoDays, x1_NoDays, x2_NoDays, x3_NoDays, x4_NoDays, x5_NoDays, x6_NoDays, x7_NoDays⟩, (fun i c h => match i, h with | 0, h => by cases h; exact ⟨_, rfl, kt_NoDays_NoBack⟩ | 1, h => by cases h; exact ⟨_, rfl, kt_NoDays_NoBakery⟩ | 2, h => by cases h; exact ⟨_, rfl, kt_NoDays_NoDay⟩ | 3, h => by cases h; exact ⟨_, rfl, kt_NoDays_NoDays⟩ | 4, h => by cases h; exact ⟨_, rfl, kt_NoDays_NoDoughs⟩ | 5, h => by cases h; exact ⟨_, rfl, kt_NoDays_NoGood⟩ | 6, h => by cases h; exact ⟨_, rfl, kt_NoDays_NoName⟩ | 7, h => by cases h; exact ⟨_, rfl, kt_NoDays_NoNumber⟩ | 8, h => by cases h; exact ⟨_, rfl, kt_NoDays_NoPart⟩ | 9, h => by cases h; exact ⟨_, rfl, kt_NoDays_NoRow⟩ | 10, h => by cases h; exact ⟨_, rfl, kt_NoDays_NoText⟩ | 11, h => by cases h; exact ⟨_, rfl, kt_NoDays_NotPlain⟩ | 12, h => by cases h; exact ⟨_, rfl, kt_NoDays_NotSteady⟩ | 13, h => by cases h; exact ⟨_, rfl, kt_NoDays_TooMany⟩ | 14, h => by cases h; exact ⟨_, rfl, kt_NoDays_TooMuch⟩ | 15, h => by cases h; exact ⟨_, rfl, kt_NoDays_BakeError⟩ | _ + 16, h => nomatch h), xb_NoDays⟩
  have T_NoDoughs : Kinds K C_NoDoughs [C_NoBack, C_NoBakery, C_NoDay, C_NoDays, C_NoDoughs, C_NoGood, C_NoName, C_NoNumber, C_NoPart, C_NoRow, C_NoText, C_NotPlain, C_NotSteady, C_TooMany, C_TooMuch, C_BakeError] [false, false, false, false, true, false, false, false, false, false, false, false, false, false, false, true] := ⟨⟨x0_NoDoughs, x1_NoDoughs, x2_NoDoughs, x3_NoDoughs, x4_NoDoughs, x5_NoDoughs, x6_NoDoughs, x7_NoDoughs⟩, (fun i c h => match i, h with | 0, h => by cases h; exact ⟨_, rfl, kt_NoDoughs_NoBack⟩ | 1, h => by cases h; exact ⟨_, rfl, kt_NoDoughs_NoBakery⟩ | 2, h => by cases h; exact ⟨_, rfl, kt_NoDoughs_NoDay⟩ | 3, h => by cases h; exact ⟨_, rfl, kt_NoDoughs_NoDays⟩ | 4, h => by cases h; exact ⟨_, rfl, kt_NoDoughs_NoDoughs⟩ | 5, h => by cases h; exact ⟨_, rfl, kt_NoDoughs_NoGood⟩ | 6, h => by cases h; exact ⟨_, rfl, kt_NoDoughs_NoName⟩ | 7, h => by cases h; exact ⟨_, rfl, kt_NoDoughs_NoNumber⟩ | 8, h => by cases h; exact ⟨_, rfl, kt_NoDoughs_NoPart⟩ | 9, h => by cases h; exact ⟨_, rfl, kt_NoDoughs_NoRow⟩ | 10, h => by cases h; exact ⟨_, rfl, kt_NoDoughs_NoText⟩ | 11, h => by cases h; exact ⟨_, rfl, kt_NoDoughs_NotPlain⟩ | 12, h => by cases h; exact ⟨_, rfl, kt_NoDoughs_NotSteady⟩ | 13, h => by cases h; exact ⟨_, rfl, kt_NoDoughs_TooMany⟩ | 14, h => by cases h; exact ⟨_, rfl, kt_NoDoughs_TooMuch⟩ | 15, h => by cases h; exact ⟨_, rfl, kt_NoDoughs_BakeError⟩ | _ + 16, h => nomatch h), xb_NoDoughs⟩
  have T_NoGood : Kinds K C_NoGood [C_NoBack, C_NoBakery, C_NoDay, C_NoDays, C_NoDoughs, C_NoGood, C_NoName, C_NoNumber, C_NoPart, C_NoRow, C_NoText, C_NotPlain, C_NotSteady, C_TooMany, C_TooMuch, C_BakeError] [false, false, false, false, false, true, false, false, false, false, false, false, false, false, false, true] := ⟨⟨x0_NoGood, x1_NoGood, x2_NoGood, x3_NoGood, x4_NoGood, x5_NoGood, x6_NoGood, x7_NoGood⟩, (fun i c h => match i, h with | 0, h => by cases h; exact ⟨_, rfl, kt_NoGood_NoBack⟩ | 1, h => by cases h; exact ⟨_, rfl, kt_NoGood_NoBakery⟩ | 2, h => by cases h; exact ⟨_, rfl, kt_NoGood_NoDay⟩ | 3, h => by cases h; exact ⟨_, rfl, kt_NoGood_NoDays⟩ | 4, h => by cases h; exact ⟨_, rfl, kt_NoGood_NoDoughs⟩ | 5, h => by cases h; exact ⟨_, rfl, kt_NoGood_NoGood⟩ | 6, h => by cases h; exact ⟨_, rfl, kt_NoGood_NoName⟩ | 7, h => by cases h; exact ⟨_, rfl, kt_NoGood_NoNumber⟩ | 8, h => by cases h; exact ⟨_, rfl, kt_NoGood_NoPart⟩ | 9, h => by cases h; exact ⟨_, rfl, kt_NoGood_NoRow⟩ | 10, h => by cases h; exact ⟨_, rfl, kt_NoGood_NoText⟩ | 11, h => by cases h; exact ⟨_, rfl, kt_NoGood_NotPlain⟩ | 12, h => by cases h; exact ⟨_, rfl, kt_NoGood_NotSteady⟩ | 13, h => by cases h; exact ⟨_, rfl, kt_NoGood_TooMany⟩ | 14, h => by cases h; exact ⟨_, rfl, kt_NoGood_TooMuch⟩ | 15, h => by cases h; exact ⟨_, rfl, kt_NoGood_BakeError⟩ | _ + 16, h => nomatch h), xb_NoGood⟩
  have T_NoName : Kinds K C_NoName [C_NoBack, C_NoBakery, C_NoDay, C_NoDays, C_NoDoughs, C_NoGood, C_NoName, C_NoNumber, C_NoPart, C_NoRow, C_NoText, C_NotPlain, C_NotSteady, C_TooMany, C_TooMuch, C_BakeError] [false, false, false, false, false, false, true, false, false, false, false, false, false, false, false, true] := ⟨⟨x0_NoName, x1_NoName, x2_NoName, x3_NoName, x4_NoName, x5_NoName, x6_NoName, x7_NoName⟩, (fun i c h => match i, h with | 0, h => by cases h; exact ⟨_, rfl, kt_NoName_NoBack⟩ | 1, h => by cases h; exact ⟨_, rfl, kt_NoName_NoBakery⟩ | 2, h => by cases h; exact ⟨_, rfl, kt_NoName_NoDay⟩ | 3, h => by cases h; exact ⟨_, rfl, kt_NoName_NoDays⟩ | 4, h => by cases h; exact ⟨_, rfl, kt_NoName_NoDoughs⟩ | 5, h => by cases h; exact ⟨_, rfl, kt_NoName_NoGood⟩ | 6, h => by cases h; exact ⟨_, rfl, kt_NoName_NoName⟩ | 7, h => by cases h; exact ⟨_, rfl, kt_NoName_NoNumber⟩ | 8, h => by cases h; exact ⟨_, rfl, kt_NoName_NoPart⟩ | 9, h => by cases h; exact ⟨_, rfl, kt_NoName_NoRow⟩ | 10, h => by cases h; exact ⟨_, rfl, kt_NoName_NoText⟩ | 11, h => by cases h; exact ⟨_, rfl, kt_NoName_NotPlain⟩ | 12, h => by cases h; exact ⟨_, rfl, kt_NoName_NotSteady⟩ | 13, h => by cases h; exact ⟨_, rfl, kt_NoName_TooMany⟩ | 14, h => by cases h; exact ⟨_, rfl, kt_NoName_TooMuch⟩ | 15, h => by cases h; exact ⟨_, rfl, kt_NoName_BakeError⟩ | _ + 16, h => nomatch h), xb_NoName⟩
  have T_NoNumber : Kinds K C_NoNumber [C_NoBack, C_NoBakery, C_NoDay, C_NoDays, C_NoDoughs, C_NoGood, C_NoName, C_NoNumber, C_NoPart, C_NoRow, C_NoText, C_NotPlain, C_NotSteady, C_TooMany, C_TooMuch, C_BakeError] [false, false, false, false, false, false, false, true, false, false, false, false, false, false, false, true] := ⟨⟨x0_NoNumber, x1_NoNumber, x2_NoNumber, x3_NoNumber, x4_NoNumber, x5_NoNumber, x6_NoNumber, x7_NoNumber⟩, (fun i c h => match i, h with | 0, h => by cases h; exact ⟨_, rfl, kt_NoNumber_NoBack⟩ | 1, h => by cases h; exact ⟨_, rfl, kt_NoNumber_NoBakery⟩ | 2, h => by cases h; exact ⟨_, rfl, kt_NoNumber_NoDay⟩ | 3, h => by cases h; exact ⟨_, rfl, kt_NoNumber_NoDays⟩ | 4, h => by cases h; exact ⟨_, rfl, kt_NoNumber_NoDoughs⟩ | 5, h => by cases h; exact ⟨_, rfl, kt_NoNumber_NoGood⟩ | 6, h => by cases h; exact ⟨_, rfl, kt_NoNumber_NoName⟩ | 7, h => by cases h; exact ⟨_, rfl, kt_NoNumber_NoNumber⟩ | 8, h => by cases h; exact ⟨_, rfl, kt_NoNumber_NoPart⟩ | 9, h => by cases h; exact ⟨_, rfl, kt_NoNumber_NoRow⟩ | 10, h => by cases h; exact ⟨_, rfl, kt_NoNumber_NoText⟩ | 11, h => by cases h; exact ⟨_, rfl, kt_NoNumber_NotPlain⟩ | 12, h => by cases h; exact ⟨_, rfl, kt_NoNumber_NotSteady⟩ | 13, h => by cases h; exact ⟨_, rfl, kt_NoNumber_TooMany⟩ | 14, h => by cases h; exact ⟨_, rfl, kt_NoNumber_TooMuch⟩ | 15, h => by cases h; exact ⟨_, rfl, kt_NoNumber_BakeError⟩ | _ + 16, h => nomatch h), xb_NoNumber⟩
  have T_NoPart : Kinds K C_NoPart [C_NoBack, C_NoBakery, C_NoDay, C_NoDays, C_NoDoughs, C_NoGood, C_NoName, C_NoNumber, C_NoPart, C_NoRow, C_NoText, C_NotPlain, C_NotSteady, C_TooMany, C_TooMuch, C_BakeError] [false, false, false, false, false, false, false, false, true, false, false, false, false, false, false, true] := ⟨⟨x0_NoPart, x1_NoPart, x2_NoPart, x3_NoPart, x4_NoPart, x5_NoPart, x6_NoPart, x7_NoPart⟩, (fun i c h => match i, h with | 0, h => by cases h; exact ⟨_, rfl, kt_NoPart_NoBack⟩ | 1, h => by cases h; exact ⟨_, rfl, kt_NoPart_NoBakery⟩ | 2, h => by cases h; exact ⟨_, rfl, kt_NoPart_NoDay⟩ | 3, h => by cases h; exact ⟨_, rfl, kt_NoPart_NoDays⟩ | 4, h => by cases h; exact ⟨_, rfl, kt_NoPart_NoDoughs⟩ | 5, h => by cases h; exact ⟨_, rfl, kt_NoPart_NoGood⟩ | 6, h => by cases h; exact ⟨_, rfl, kt_NoPart_NoName⟩ | 7, h => by cases h; exact ⟨_, rfl, kt_NoPart_NoNumber⟩ | 8, h => by cases h; exact ⟨_, rfl, kt_NoPart_NoPart⟩ | 9, h => by cases h; exact ⟨_, rfl, kt_NoPart_NoRow⟩ | 10, h => by cases h; exact ⟨_, rfl, kt_NoPart_NoText⟩ | 11, h => by cases h; exact ⟨_, rfl, kt_NoPart_NotPlain⟩ | 12, h => by cases h; exact ⟨_, rfl, kt_NoPart_NotSteady⟩ | 13, h => by cases h; exact ⟨_, rfl, kt_NoPart_TooMany⟩ | 14, h => by cases h; exact ⟨_, rfl, kt_NoPart_TooMuch⟩ | 15, h => by cases h; exact ⟨_, rfl, kt_NoPart_BakeError⟩ | _ + 16, h => nomatch h), xb_NoPart⟩
  have T_NoRow : Kinds K C_NoRow [C_NoBack, C_NoBakery, C_NoDay, C_NoDays, C_NoDoughs, C_NoGood, C_NoName, C_NoNumber, C_NoPart, C_NoRow, C_NoText, C_NotPlain, C_NotSteady, C_TooMany, C_TooMuch, C_BakeError] [false, false, false, false, false, false, false, false, false, true, false, false, false, false, false, true] := ⟨⟨x0_NoRow, x1_NoRow, x2_NoRow, x3_NoRow, x4_NoRow, x5_NoRow, x6_NoRow, x7_NoRow⟩, (fun i c h => match i, h with | 0, h => by cases h; exact ⟨_, rfl, kt_NoRow_NoBack⟩ | 1, h => by cases h; exact ⟨_, rfl, kt_NoRow_NoBakery⟩ | 2, h => by cases h; exact ⟨_, rfl, kt_NoRow_NoDay⟩ | 3, h => by cases h; exact ⟨_, rfl, kt_NoRow_NoDays⟩ | 4, h => by cases h; exact ⟨_, rfl, kt_NoRow_NoDoughs⟩ | 5, h => by cases h; exact ⟨_, rfl, kt_NoRow_NoGood⟩ | 6, h => by cases h; exact ⟨_, rfl, kt_NoRow_NoName⟩ | 7, h => by cases h; exact ⟨_, rfl, kt_NoRow_NoNumber⟩ | 8, h => by cases h; exact ⟨_, rfl, kt_NoRow_NoPart⟩ | 9, h => by cases h; exact ⟨_, rfl, kt_NoRow_NoRow⟩ | 10, h => by cases h; exact ⟨_, rfl, kt_NoRow_NoText⟩ | 11, h => by cases h; exact ⟨_, rfl, kt_NoRow_NotPlain⟩ | 12, h => by cases h; exact ⟨_, rfl, kt_NoRow_NotSteady⟩ | 13, h => by cases h; exact ⟨_, rfl, kt_NoRow_TooMany⟩ | 14, h => by cases h; exact ⟨_, rfl, kt_NoRow_TooMuch⟩ | 15, h => by cases h; exact ⟨_, rfl, kt_NoRow_BakeError⟩ | _ + 16, h => nomatch h), xb_NoRow⟩
  have T_NoText : Kinds K C_NoText [C_NoBack, C_NoBakery, C_NoDay, C_NoDays, C_NoDoughs, C_NoGood, C_NoName, C_NoNumber, C_NoPart, C_NoRow, C_NoText, C_NotPlain, C_NotSteady, C_TooMany, C_TooMuch, C_BakeError] [false, false, false, false, false, false, false, false, false, false, true, false, false, false, false, true] := ⟨⟨x0_NoText, x1_NoText, x2_NoText, x3_NoText, x4_NoText, x5_NoText, x6_NoText, x7_NoText⟩, (fun i c h => match i, h with | 0, h => by cases h; exact ⟨_, rfl, kt_NoText_NoBack⟩ | 1, h => by cases h; exact ⟨_, rfl, kt_NoText_NoBakery⟩ | 2, h => by cases h; exact ⟨_, rfl, kt_NoText_NoDay⟩ | 3, h => by cases h; exact ⟨_, rfl, kt_NoText_NoDays⟩ | 4, h => by cases h; exact ⟨_, rfl, kt_NoText_NoDoughs⟩ | 5, h => by cases h; exact ⟨_, rfl, kt_NoText_NoGood⟩ | 6, h => by cases h; exact ⟨_, rfl, kt_NoText_NoName⟩ | 7, h => by cases h; exact ⟨_, rfl, kt_NoText_NoNumber⟩ | 8, h => by cases h; exact ⟨_, rfl, kt_NoText_NoPart⟩ | 9, h => by cases h; exact ⟨_, rfl, kt_NoText_NoRow⟩ | 10, h => by cases h; exact ⟨_, rfl, kt_NoText_NoText⟩ | 11, h => by cases h; exact ⟨_, rfl, kt_NoText_NotPlain⟩ | 12, h => by cases h; exact ⟨_, rfl, kt_NoText_NotSteady⟩ | 13, h => by cases h; exact ⟨_, rfl, kt_NoText_TooMany⟩ | 14, h => by cases h; exact ⟨_, rfl, kt_NoText_TooMuch⟩ | 15, h => by cases h; exact ⟨_, rfl, kt_NoText_BakeError⟩ | _ + 16, h => nomatch h), xb_NoText⟩
  have T_NotPlain : Kinds K C_NotPlain [C_NoBack, C_NoBakery, C_NoDay, C_NoDays, C_NoDoughs, C_NoGood, C_NoName, C_NoNumber, C_NoPart, C_NoRow, C_NoText, C_NotPlain, C_NotSteady, C_TooMany, C_TooMuch, C_BakeError] [false, false, false, false, false, false, false, false, false, false, false, true, false, false, false, true] := ⟨⟨x0_NotPlain, x1_NotPlain, x2_NotPlain, x3_NotPlain, x4_NotPlain, x5_NotPlain, x6_NotPlain, x7_NotPlain⟩, (fun i c h => match i, h with | 0, h => by cases h; exact ⟨_, rfl, kt_NotPlain_NoBack⟩ | 1, h => by cases h; exact ⟨_, rfl, kt_NotPlain_NoBakery⟩ | 2, h => by cases h; exact ⟨_, rfl, kt_NotPlain_NoDay⟩ | 3, h => by cases h; exact ⟨_, rfl, kt_NotPlain_NoDays⟩ | 4, h => by cases h; exact ⟨_, rfl, kt_NotPlain_NoDoughs⟩ | 5, h => by cases h; exact ⟨_, rfl, kt_NotPlain_NoGood⟩ | 6, h => by cases h; exact ⟨_, rfl, kt_NotPlain_NoName⟩ | 7, h => by cases h; exact ⟨_, rfl, kt_NotPlain_NoNumber⟩ | 8, h => by cases h; exact ⟨_, rfl, kt_NotPlain_NoPart⟩ | 9, h => by cases h; exact ⟨_, rfl, kt_NotPlain_NoRow⟩ | 10, h => by cases h; exact ⟨_, rfl, kt_NotPlain_NoText⟩ | 11, h => by cases h; exact ⟨_, rfl, kt_NotPlain_NotPlain⟩ | 12, h => by cases h; exact ⟨_, rfl, kt_NotPlain_NotSteady⟩ | 13, h => by cases h; exact ⟨_, rfl, kt_NotPlain_TooMany⟩ | 14, h => by cases h; exact ⟨_, rfl, kt_NotPlain_TooMuch⟩ | 15, h => by cases h; exact ⟨_, rfl, kt_NotPlain_BakeError⟩ | _ + 16, h => nomatch h), xb_NotPlain⟩
  have T_NotSteady : Kinds K C_NotSteady [C_NoBack, C_NoBakery, C_NoDay, C_NoDays, C_NoDoughs, C_NoGood, C_NoName, C_NoNumber, C_NoPart, C_NoRow, C_NoText, C_NotPlain, C_NotSteady, C_TooMany, C_TooMuch, C_BakeError] [false, false, false, false, false, false, false, false, false, false, false, false, true, false, false, true] := ⟨⟨x0_NotSteady, x1_NotSteady, x2_NotSteady, x3_NotSteady, x4_NotSteady, x5_NotSteady, x6_NotSteady, x7_NotSteady⟩, (fun i c h => match i, h with | 0, h => by cases h; exact ⟨_, rfl, kt_NotSteady_NoBack⟩ | 1, h => by cases h; exact ⟨_, rfl, kt_NotSteady_NoBakery⟩ | 2, h => by cases h; exact ⟨_, rfl, kt_NotSteady_NoDay⟩ | 3, h => by cases h; exact ⟨_, rfl, kt_NotSteady_NoDays⟩ | 4, h => by cases h; exact ⟨_, rfl, kt_NotSteady_NoDoughs⟩ | 5, h => by cases h; exact ⟨_, rfl, kt_NotSteady_NoGood⟩ | 6, h => by cases h; exact ⟨_, rfl, kt_NotSteady_NoName⟩ | 7, h => by cases h; exact ⟨_, rfl, kt_NotSteady_NoNumber⟩ | 8, h => by cases h; exact ⟨_, rfl, kt_NotSteady_NoPart⟩ | 9, h => by cases h; exact ⟨_, rfl, kt_NotSteady_NoRow⟩ | 10, h => by cases h; exact ⟨_, rfl, kt_NotSteady_NoText⟩ | 11, h => by cases h; exact ⟨_, rfl, kt_NotSteady_NotPlain⟩ | 12, h => by cases h; exact ⟨_, rfl, kt_NotSteady_NotSteady⟩ | 13, h => by cases h; exact ⟨_, rfl, kt_NotSteady_TooMany⟩ | 14, h => by cases h; exact ⟨_, rfl, kt_NotSteady_TooMuch⟩ | 15, h => by cases h; exact ⟨_, rfl, kt_NotSteady_BakeError⟩ | _ + 16, h => nomatch h), xb_NotSteady⟩
  have T_TooMany : Kinds K C_TooMany [C_NoBack, C_NoBakery, C_NoDay, C_NoDays, C_NoDoughs, C_NoGood, C_NoName, C_NoNumber, C_NoPart, C_NoRow, C_NoText, C_NotPlain, C_NotSteady, C_TooMany, C_TooMuch, C_BakeError] [false, false, false, false, false, false, false, false, false, false, false, false, false, true, false, true] := ⟨⟨x0_TooMany, x1_TooMany, x2_TooMany, x3_TooMany, x4_TooMany, x5_TooMany, x6_TooMany, x7_TooMany⟩, (fun i c h => match i, h with | 0, h => by cases h; exact ⟨_, rfl, kt_TooMany_NoBack⟩ | 1, h => by cases h; exact ⟨_, rfl, kt_TooMany_NoBakery⟩ | 2, h => by cases h; exact ⟨_, rfl, kt_TooMany_NoDay⟩ | 3, h => by cases h; exact ⟨_, rfl, kt_TooMany_NoDays⟩ | 4, h => by cases h; exact ⟨_, rfl, kt_TooMany_NoDoughs⟩ | 5, h => by cases h; exact ⟨_, rfl, kt_TooMany_NoGood⟩ | 6, h => by cases h; exact ⟨_, rfl, kt_TooMany_NoName⟩ | 7, h => by cases h; exact ⟨_, rfl, kt_TooMany_NoNumber⟩ | 8, h => by cases h; exact ⟨_, rfl, kt_TooMany_NoPart⟩ | 9, h => by cases h; exact ⟨_, rfl, kt_TooMany_NoRow⟩ | 10, h => by cases h; exact ⟨_, rfl, kt_TooMany_NoText⟩ | 11, h => by cases h; exact ⟨_, rfl, kt_TooMany_NotPlain⟩ | 12, h => by cases h; exact ⟨_, rfl, kt_TooMany_NotSteady⟩ | 13, h => by cases h; exact ⟨_, rfl, kt_TooMany_TooMany⟩ | 14, h => by cases h; exact ⟨_, rfl, kt_TooMany_TooMuch⟩ | 15, h => by cases h; exact ⟨_, rfl, kt_TooMany_BakeError⟩ | _ + 16, h => nomatch h), xb_TooMany⟩
  have T_TooMuch : Kinds K C_TooMuch [C_NoBack, C_NoBakery, C_NoDay, C_NoDays, C_NoDoughs, C_NoGood, C_NoName, C_NoNumber, C_NoPart, C_NoRow, C_NoText, C_NotPlain, C_NotSteady, C_TooMany, C_TooMuch, C_BakeError] [false, false, false, false, false, false, false, false, false, false, false, false, false, false, true, true] := ⟨⟨x0_TooMuch, x1_TooMuch, x2_TooMuch, x3_TooMuch, x4_TooMuch, x5_TooMuch, x6_TooMuch, x7_TooMuch⟩, (fun i c h => match i, h with | 0, h => by cases h; exact ⟨_, rfl, kt_TooMuch_NoBack⟩ | 1, h => by cases h; exact ⟨_, rfl, kt_TooMuch_NoBakery⟩ | 2, h => by cases h; exact ⟨_, rfl, kt_TooMuch_NoDay⟩ | 3, h => by cases h; exact ⟨_, rfl, kt_TooMuch_NoDays⟩ | 4, h => by cases h; exact ⟨_, rfl, kt_TooMuch_NoDoughs⟩ | 5, h => by cases h; exact ⟨_, rfl, kt_TooMuch_NoGood⟩ | 6, h => by cases h; exact ⟨_, rfl, kt_TooMuch_NoName⟩ | 7, h => by cases h; exact ⟨_, rfl, kt_TooMuch_NoNumber⟩ | 8, h => by cases h; exact ⟨_, rfl, kt_TooMuch_NoPart⟩ | 9, h => by cases h; exact ⟨_, rfl, kt_TooMuch_NoRow⟩ | 10, h => by cases h; exact ⟨_, rfl, kt_TooMuch_NoText⟩ | 11, h => by cases h; exact ⟨_, rfl, kt_TooMuch_NotPlain⟩ | 12, h => by cases h; exact ⟨_, rfl, kt_TooMuch_NotSteady⟩ | 13, h => by cases h; exact ⟨_, rfl, kt_TooMuch_TooMany⟩ | 14, h => by cases h; exact ⟨_, rfl, kt_TooMuch_TooMuch⟩ | 15, h => by cases h; exact ⟨_, rfl, kt_TooMuch_BakeError⟩ | _ + 16, h => nomatch h), xb_TooMuch⟩
  have BE : BaseE K mg C_BakeError [C_NoBack, C_NoBakery, C_NoDay, C_NoDays, C_NoDoughs, C_NoGood, C_NoName, C_NoNumber, C_NoPart, C_NoRow, C_NoText, C_NotPlain, C_NotSteady, C_TooMany, C_TooMuch] := ⟨M_BakeError, fun c hc => by simp only [List.mem_cons, List.not_mem_nil, or_false] at hc; rcases hc with rfl | rfl | rfl | rfl | rfl | rfl | rfl | rfl | rfl | rfl | rfl | rfl | rfl | rfl | rfl <;> assumption⟩
  have D1 : Def l.prog w K mg base "_law_numbers" 1 ["_law_cell", "_law_salt", "_law_sizes"] (spNumbers K) := ⟨_, _, PySem.W.mg_of X G a1, k1, b1, ok_numbers F1 B⟩
  have D2 : Def l.prog w K mg base "_law_kinds" 1 ["_law_e"] (spKinds K [C_NoBack, C_NoBakery, C_NoDay, C_NoDays, C_NoDoughs, C_NoGood, C_NoName, C_NoNumber, C_NoPart, C_NoRow, C_NoText, C_NotPlain, C_NotSteady, C_TooMany, C_TooMuch, C_BakeError]) := ⟨_, _, PySem.W.mg_of X G a2, k2, b2, ok_kinds F2 B M_NoBack M_NoBakery M_NoDay M_NoDays M_NoDoughs M_NoGood M_NoName M_NoNumber M_NoPart M_NoRow M_NoText M_NotPlain M_NotSteady M_TooMany M_TooMuch⟩
  have D3 : Def l.prog w K mg base "_law_all" 3 ["_law_one", "_law_other", "_law_row", "_law_last", "_law_text"] (spAll K [C_NoBack, C_NoBakery, C_NoDay, C_NoDays, C_NoDoughs, C_NoGood, C_NoName, C_NoNumber, C_NoPart, C_NoRow, C_NoText, C_NotPlain, C_NotSteady, C_TooMany, C_TooMuch, C_BakeError]) := ⟨_, _, PySem.W.mg_of X G a3, k3, b3, ok_all F3 E1_NoBack E1_NoDay E1_NoDays E1_NoGood E1_NoName E1_NoNumber E1_NoPart E1_NoRow E1_NotPlain E1_NotSteady E1_TooMany NB_NoBakery NB_NoDoughs NB_NoText NB_TooMuch⟩
  have D4 : Def l.prog w K mg base "_law_fields" 1 ["_law_found"] (spFields K [C_NoBack, C_NoBakery, C_NoDay, C_NoDays, C_NoDoughs, C_NoGood, C_NoName, C_NoNumber, C_NoPart, C_NoRow, C_NoText, C_NotPlain, C_NotSteady, C_TooMany, C_TooMuch, C_BakeError]) := ⟨_, _, PySem.W.mg_of X G a4, k4, b4, ok_fields F4 T_NoBakery T_NoDoughs T_NoText T_TooMuch n1_NoBakery n2_NoBakery n1_NoDoughs n1_NoText n1_TooMuch n2_TooMuch⟩
  have D5 : Def l.prog w K mg base "_law_raised" 3 ["_law_one", "_law_other"] (spRaised) := ⟨_, _, PySem.W.mg_of X G a5, k5, b5, ok_raised F5 BE NB_TooMuch T_TooMuch n1_TooMuch n2_TooMuch D2⟩
  exact ok_law F6 B Bv M_BakeError D1 D2 D3 D4 D5 T_NoBack T_NoBakery T_NoDay T_NoDays T_NoDoughs T_NoGood T_NoName T_NoNumber T_NoPart T_NoRow T_NoText T_NotPlain T_NotSteady T_TooMany T_TooMuch
end Bk
open PySem PySem.W PyProof.Rows
set_option maxHeartbeats 0 in
theorem PySem.Challenge.cw_bakeahead_k04_refusals_made_holds : PySem.Challenge.rw_bakeahead_k04_refusals_made.Holds := by
  w_on; o_law; k_head; (case hw => w_witness2)
  k_fill
  refine L2.walk_of (l := PySem.Challenge.rw_bakeahead_k04_refusals_made) (n := 63) (k := 4) (x := "_law_script") (CX := fun _ => L2.CX0) (sp := fun w => Bk.spLaw _) rfl (by decide) rfl ⟨rfl, by decide, by decide⟩ (fun w h Y => PySem.W.kIn_of Y) ?F (fun _ _ a ns hl _ hS => ⟨a, ns, rfl, hS, hl, fun _ => rfl⟩) (fun _ _ _ _ _ h => h)
  case F =>
    intro w mg fa h KX G hmg
    refine' Bk.all_mk KX G hmg ?a1 ?l1 ?c1 ?k1 ?a2 ?l2 ?c2 ?k2 ?a3 ?l3 ?c3 ?k3 ?a4 ?l4 ?c4 ?k4 ?a5 ?l5 ?c5 ?k5 ?a6 ?l6 ?c6 ?k6 ?aC_NoBakery ?xL_NoBakery ?sa_NoBakery ?eC_NoBakery ?tC_NoBakery ?kC_NoBakery ?iC_NoBakery ?sC_NoBakery ?a1_NoBakery ?t1_NoBakery ?l1_NoBakery ?c1_NoBakery ?n1_NoBakery ?n2_NoBakery ?uc_NoBakery ?uf_NoBakery ?ue_NoBakery ?ul_NoBakery ?us_NoBakery ?um_NoBakery ?ub_NoBakery ?up_NoBakery ?ut_NoBakery ?aC_TooMuch ?xL_TooMuch ?sa_TooMuch ?eC_TooMuch ?tC_TooMuch ?kC_TooMuch ?iC_TooMuch ?sC_TooMuch ?a1_TooMuch ?t1_TooMuch ?l1_TooMuch ?c1_TooMuch ?n1_TooMuch ?n2_TooMuch ?uc_TooMuch ?uf_TooMuch ?ue_TooMuch ?ul_TooMuch ?us_TooMuch ?um_TooMuch ?ub_TooMuch ?up_TooMuch ?ut_TooMuch ?aC_NoDoughs ?xL_NoDoughs ?sa_NoDoughs ?eC_NoDoughs ?tC_NoDoughs ?kC_NoDoughs ?iC_NoDoughs ?sC_NoDoughs ?a1_NoDoughs ?t1_NoDoughs ?l1_NoDoughs ?c1_NoDoughs ?n1_NoDoughs ?n2_NoDoughs ?uc_NoDoughs ?uf_NoDoughs ?ue_NoDoughs ?ul_NoDoughs ?us_NoDoughs ?um_NoDoughs ?ub_NoDoughs ?up_NoDoughs ?ut_NoDoughs ?aC_NoText ?xL_NoText ?sa_NoText ?eC_NoText ?tC_NoText ?kC_NoText ?iC_NoText ?sC_NoText ?a1_NoText ?t1_NoText ?l1_NoText ?c1_NoText ?n1_NoText ?n2_NoText ?uc_NoText ?uf_NoText ?ue_NoText ?ul_NoText ?us_NoText ?um_NoText ?ub_NoText ?up_NoText ?ut_NoText ?aC_NoBack ?aC_NoDay ?aC_NoDays ?aC_NoGood ?aC_NoName ?aC_NoNumber ?aC_NoPart ?aC_NoRow ?aC_NotPlain ?aC_NotSteady ?aC_TooMany ?aC_BakeError ?q1_NoBack ?kC_NoBack ?eC_NoBack ?tC_NoBack ?q1_NoDay ?kC_NoDay ?eC_NoDay ?tC_NoDay ?q1_NoDays ?kC_NoDays ?eC_NoDays ?tC_NoDays ?q1_NoGood ?kC_NoGood ?eC_NoGood ?tC_NoGood ?q1_NoName ?kC_NoName ?eC_NoName ?tC_NoName ?q1_NoNumber ?kC_NoNumber ?eC_NoNumber ?tC_NoNumber ?q1_NoPart ?kC_NoPart ?eC_NoPart ?tC_NoPart ?q1_NoRow ?kC_NoRow ?eC_NoRow ?tC_NoRow ?q1_NotPlain ?kC_NotPlain ?eC_NotPlain ?tC_NotPlain ?q1_NotSteady ?kC_NotSteady ?eC_NotSteady ?tC_NotSteady ?q1_TooMany ?kC_TooMany ?eC_TooMany ?tC_TooMany ?x0_NoBack ?x1_NoBack ?x2_NoBack ?x3_NoBack ?x4_NoBack ?x5_NoBack ?x6_NoBack ?x7_NoBack ?xb_NoBack ?xm_NoBack ?kt_NoBack_NoBack ?kt_NoBack_NoBakery ?kt_NoBack_NoDay ?kt_NoBack_NoDays ?kt_NoBack_NoDoughs ?kt_NoBack_NoGood ?kt_NoBack_NoName ?kt_NoBack_NoNumber ?kt_NoBack_NoPart ?kt_NoBack_NoRow ?kt_NoBack_NoText ?kt_NoBack_NotPlain ?kt_NoBack_NotSteady ?kt_NoBack_TooMany ?kt_NoBack_TooMuch ?kt_NoBack_BakeError ?x0_NoBakery ?x1_NoBakery ?x2_NoBakery ?x3_NoBakery ?x4_NoBakery ?x5_NoBakery ?x6_NoBakery ?x7_NoBakery ?xb_NoBakery ?xm_NoBakery ?kt_NoBakery_NoBack ?kt_NoBakery_NoBakery ?kt_NoBakery_NoDay ?kt_NoBakery_NoDays ?kt_NoBakery_NoDoughs ?kt_NoBakery_NoGood ?kt_NoBakery_NoName ?kt_NoBakery_NoNumber ?kt_NoBakery_NoPart ?kt_NoBakery_NoRow ?kt_NoBakery_NoText ?kt_NoBakery_NotPlain ?kt_NoBakery_NotSteady ?kt_NoBakery_TooMany ?kt_NoBakery_TooMuch ?kt_NoBakery_BakeError ?x0_NoDay ?x1_NoDay ?x2_NoDay ?x3_NoDay ?x4_NoDay ?x5_NoDay ?x6_NoDay ?x7_NoDay ?xb_NoDay ?xm_NoDay ?kt_NoDay_NoBack ?kt_NoDay_NoBakery ?kt_NoDay_NoDay ?kt_NoDay_NoDays ?kt_NoDay_NoDoughs ?kt_NoDay_NoGood ?kt_NoDay_NoName ?kt_NoDay_NoNumber ?kt_NoDay_NoPart ?kt_NoDay_NoRow ?kt_NoDay_NoText ?kt_NoDay_NotPlain ?kt_NoDay_NotSteady ?kt_NoDay_TooMany ?kt_NoDay_TooMuch ?kt_NoDay_BakeError ?x0_NoDays ?x1_NoDays ?x2_NoDays ?x3_NoDays ?x4_NoDays ?x5_NoDays ?x6_NoDays ?x7_NoDays ?xb_NoDays ?xm_NoDays ?kt_NoDays_NoBack ?kt_NoDays_NoBakery ?kt_NoDays_NoDay ?kt_NoDays_NoDays ?kt_NoDays_NoDoughs ?kt_NoDays_NoGood ?kt_NoDays_NoName ?kt_NoDays_NoNumber ?kt_NoDays_NoPart ?kt_NoDays_NoRow ?kt_NoDays_NoText ?kt_NoDays_NotPlain ?kt_NoDays_NotSteady ?kt_NoDays_TooMany ?kt_NoDays_TooMuch ?kt_NoDays_BakeError ?x0_NoDoughs ?x1_NoDoughs ?x2_NoDoughs ?x3_NoDoughs ?x4_NoDoughs ?x5_NoDoughs ?x6_NoDoughs ?x7_NoDoughs ?xb_NoDoughs ?xm_NoDoughs ?kt_NoDoughs_NoBack ?kt_NoDoughs_NoBakery ?kt_NoDoughs_NoDay ?kt_NoDoughs_NoDays ?kt_NoDoughs_NoDoughs ?kt_NoDoughs_NoGood ?kt_NoDoughs_NoName ?kt_NoDoughs_NoNumber ?kt_NoDoughs_NoPart ?kt_NoDoughs_NoRow ?kt_NoDoughs_NoText ?kt_NoDoughs_NotPlain ?kt_NoDoughs_NotSteady ?kt_NoDoughs_TooMany ?kt_NoDoughs_TooMuch ?kt_NoDoughs_BakeError ?x0_NoGood ?x1_NoGood ?x2_NoGood ?x3_NoGood ?x4_NoGood ?x5_NoGood ?x6_NoGood ?x7_NoGood ?xb_NoGood ?xm_NoGood ?kt_NoGood_NoBack ?kt_NoGood_NoBakery ?kt_NoGood_NoDay ?kt_NoGood_NoDays ?kt_NoGood_NoDoughs ?kt_NoGood_NoGood ?kt_NoGood_NoName ?kt_NoGood_NoNumber ?kt_NoGood_NoPart ?kt_NoGood_NoRow ?kt_NoGood_NoText ?kt_NoGood_NotPlain ?kt_NoGood_NotSteady ?kt_NoGood_TooMany ?kt_NoGood_TooMuch ?kt_NoGood_BakeError ?x0_NoName ?x1_NoName ?x2_NoName ?x3_NoName ?x4_NoName ?x5_NoName ?x6_NoName ?x7_NoName ?xb_NoName ?xm_NoName ?kt_NoName_NoBack ?kt_NoName_NoBakery ?kt_NoName_NoDay ?kt_NoName_NoDays ?kt_NoName_NoDoughs ?kt_NoName_NoGood ?kt_NoName_NoName ?kt_NoName_NoNumber ?kt_NoName_NoPart ?kt_NoName_NoRow ?kt_NoName_NoText ?kt_NoName_NotPlain ?kt_NoName_NotSteady ?kt_NoName_TooMany ?kt_NoName_TooMuch ?kt_NoName_BakeError ?x0_NoNumber ?x1_NoNumber ?x2_NoNumber ?x3_NoNumber ?x4_NoNumber ?x5_NoNumber ?x6_NoNumber ?x7_NoNumber ?xb_NoNumber ?xm_NoNumber ?kt_NoNumber_NoBack ?kt_NoNumber_NoBakery ?kt_NoNumber_NoDay ?kt_NoNumber_NoDays ?kt_NoNumber_NoDoughs ?kt_NoNumber_NoGood ?kt_NoNumber_NoName ?kt_NoNumber_NoNumber ?kt_NoNumber_NoPart ?kt_NoNumber_NoRow ?kt_NoNumber_NoText ?kt_NoNumber_NotPlain ?kt_NoNumber_NotSteady ?kt_NoNumber_TooMany ?kt_NoNumber_TooMuch ?kt_NoNumber_BakeError ?x0_NoPart ?x1_NoPart ?x2_NoPart ?x3_NoPart ?x4_NoPart ?x5_NoPart ?x6_NoPart ?x7_NoPart ?xb_NoPart ?xm_NoPart ?kt_NoPart_NoBack ?kt_NoPart_NoBakery ?kt_NoPart_NoDay ?kt_NoPart_NoDays ?kt_NoPart_NoDoughs ?kt_NoPart_NoGood ?kt_NoPart_NoName ?kt_NoPart_NoNumber ?kt_NoPart_NoPart ?kt_NoPart_NoRow ?kt_NoPart_NoText ?kt_NoPart_NotPlain ?kt_NoPart_NotSteady ?kt_NoPart_TooMany ?kt_NoPart_TooMuch ?kt_NoPart_BakeError ?x0_NoRow ?x1_NoRow ?x2_NoRow ?x3_NoRow ?x4_NoRow ?x5_NoRow ?x6_NoRow ?x7_NoRow ?xb_NoRow ?xm_NoRow ?kt_NoRow_NoBack ?kt_NoRow_NoBakery ?kt_NoRow_NoDay ?kt_NoRow_NoDays ?kt_NoRow_NoDoughs ?kt_NoRow_NoGood ?kt_NoRow_NoName ?kt_NoRow_NoNumber ?kt_NoRow_NoPart ?kt_NoRow_NoRow ?kt_NoRow_NoText ?kt_NoRow_NotPlain ?kt_NoRow_NotSteady ?kt_NoRow_TooMany ?kt_NoRow_TooMuch ?kt_NoRow_BakeError ?x0_NoText ?x1_NoText ?x2_NoText ?x3_NoText ?x4_NoText ?x5_NoText ?x6_NoText ?x7_NoText ?xb_NoText ?xm_NoText ?kt_NoText_NoBack ?kt_NoText_NoBakery ?kt_NoText_NoDay ?kt_NoText_NoDays ?kt_NoText_NoDoughs ?kt_NoText_NoGood ?kt_NoText_NoName ?kt_NoText_NoNumber ?kt_NoText_NoPart ?kt_NoText_NoRow ?kt_NoText_NoText ?kt_NoText_NotPlain ?kt_NoText_NotSteady ?kt_NoText_TooMany ?kt_NoText_TooMuch ?kt_NoText_BakeError ?x0_NotPlain ?x1_NotPlain ?x2_NotPlain ?x3_NotPlain ?x4_NotPlain ?x5_NotPlain ?x6_NotPlain ?x7_NotPlain ?xb_NotPlain ?xm_NotPlain ?kt_NotPlain_NoBack ?kt_NotPlain_NoBakery ?kt_NotPlain_NoDay ?kt_NotPlain_NoDays ?kt_NotPlain_NoDoughs ?kt_NotPlain_NoGood ?kt_NotPlain_NoName ?kt_NotPlain_NoNumber ?kt_NotPlain_NoPart ?kt_NotPlain_NoRow ?kt_NotPlain_NoText ?kt_NotPlain_NotPlain ?kt_NotPlain_NotSteady ?kt_NotPlain_TooMany ?kt_NotPlain_TooMuch ?kt_NotPlain_BakeError ?x0_NotSteady ?x1_NotSteady ?x2_NotSteady ?x3_NotSteady ?x4_NotSteady ?x5_NotSteady ?x6_NotSteady ?x7_NotSteady ?xb_NotSteady ?xm_NotSteady ?kt_NotSteady_NoBack ?kt_NotSteady_NoBakery ?kt_NotSteady_NoDay ?kt_NotSteady_NoDays ?kt_NotSteady_NoDoughs ?kt_NotSteady_NoGood ?kt_NotSteady_NoName ?kt_NotSteady_NoNumber ?kt_NotSteady_NoPart ?kt_NotSteady_NoRow ?kt_NotSteady_NoText ?kt_NotSteady_NotPlain ?kt_NotSteady_NotSteady ?kt_NotSteady_TooMany ?kt_NotSteady_TooMuch ?kt_NotSteady_BakeError ?x0_TooMany ?x1_TooMany ?x2_TooMany ?x3_TooMany ?x4_TooMany ?x5_TooMany ?x6_TooMany ?x7_TooMany ?xb_TooMany ?xm_TooMany ?kt_TooMany_NoBack ?kt_TooMany_NoBakery ?kt_TooMany_NoDay ?kt_TooMany_NoDays ?kt_TooMany_NoDoughs ?kt_TooMany_NoGood ?kt_TooMany_NoName ?kt_TooMany_NoNumber ?kt_TooMany_NoPart ?kt_TooMany_NoRow ?kt_TooMany_NoText ?kt_TooMany_NotPlain ?kt_TooMany_NotSteady ?kt_TooMany_TooMany ?kt_TooMany_TooMuch ?kt_TooMany_BakeError ?x0_TooMuch ?x1_TooMuch ?x2_TooMuch ?x3_TooMuch ?x4_TooMuch ?x5_TooMuch ?x6_TooMuch ?x7_TooMuch ?xb_TooMuch ?xm_TooMuch ?kt_TooMuch_NoBack ?kt_TooMuch_NoBakery ?kt_TooMuch_NoDay ?kt_TooMuch_NoDays ?kt_TooMuch_NoDoughs ?kt_TooMuch_NoGood ?kt_TooMuch_NoName ?kt_TooMuch_NoNumber ?kt_TooMuch_NoPart ?kt_TooMuch_NoRow ?kt_TooMuch_NoText ?kt_TooMuch_NotPlain ?kt_TooMuch_NotSteady ?kt_TooMuch_TooMany ?kt_TooMuch_TooMuch ?kt_TooMuch_BakeError ?z_len ?z_max ?z_min ?z_range ?z_isinstance ?z_int ?z_bool ?z_list ?z_tuple ?z_all ?z_sum ?z_repr ?z_enumerate ?z_ValueError ?z_super
    (case a1 => k_is)
    (case l1 => k_is)
    (case c1 => k_is)
    (case k1 => k_is)
    (case a2 => k_is)
    (case l2 => k_is)
    (case c2 => k_is)
    (case k2 => k_is)
    (case a3 => k_is)
    (case l3 => k_is)
    (case c3 => k_is)
    (case k3 => k_is)
    (case a4 => k_is)
    (case l4 => k_is)
    (case c4 => k_is)
    (case k4 => k_is)
    (case a5 => k_is)
    (case l5 => k_is)
    (case c5 => k_is)
    (case k5 => k_is)
    (case a6 => k_is)
    (case l6 => k_is)
    (case c6 => k_is)
    (case k6 => k_is)
    (case aC_NoBakery => first | rfl | k_is | decide +kernel)
    (case xL_NoBakery => first | rfl | k_is | decide +kernel)
    (case sa_NoBakery => first | rfl | k_is | decide +kernel)
    (case eC_NoBakery => first | rfl | k_is | decide +kernel)
    (case tC_NoBakery => first | rfl | k_is | decide +kernel)
    (case kC_NoBakery => first | rfl | k_is | decide +kernel)
    (case iC_NoBakery => first | rfl | k_is | decide +kernel)
    (case sC_NoBakery => first | rfl | k_is | decide +kernel)
    (case a1_NoBakery => first | rfl | k_is | decide +kernel)
    (case t1_NoBakery => first | rfl | k_is | decide +kernel)
    (case l1_NoBakery => first | rfl | k_is | decide +kernel)
    (case c1_NoBakery => first | rfl | k_is | decide +kernel)
    (case n1_NoBakery => first | rfl | k_is | decide +kernel)
    (case n2_NoBakery => first | rfl | k_is | decide +kernel)
    (case uc_NoBakery => first | rfl | k_is | decide +kernel)
    (case uf_NoBakery => first | rfl | k_is | decide +kernel)
    (case ue_NoBakery => first | rfl | k_is | decide +kernel)
    (case ul_NoBakery => first | rfl | k_is | decide +kernel)
    (case us_NoBakery => first | rfl | k_is | decide +kernel)
    (case um_NoBakery => first | rfl | k_is | decide +kernel)
    (case ub_NoBakery => first | rfl | k_is | decide +kernel)
    (case up_NoBakery => first | rfl | k_is | decide +kernel)
    (case ut_NoBakery => first | rfl | k_is | decide +kernel)
    (case aC_TooMuch => first | rfl | k_is | decide +kernel)
    (case xL_TooMuch => first | rfl | k_is | decide +kernel)
    (case sa_TooMuch => first | rfl | k_is | decide +kernel)
    (case eC_TooMuch => first | rfl | k_is | decide +kernel)
    (case tC_TooMuch => first | rfl | k_is | decide +kernel)
    (case kC_TooMuch => first | rfl | k_is | decide +kernel)
    (case iC_TooMuch => first | rfl | k_is | decide +kernel)
    (case sC_TooMuch => first | rfl | k_is | decide +kernel)
    (case a1_TooMuch => first | rfl | k_is | decide +kernel)
    (case t1_TooMuch => first | rfl | k_is | decide +kernel)
    (case l1_TooMuch => first | rfl | k_is | decide +kernel)
    (case c1_TooMuch => first | rfl | k_is | decide +kernel)
    (case n1_TooMuch => first | rfl | k_is | decide +kernel)
    (case n2_TooMuch => first | rfl | k_is | decide +kernel)
    (case uc_TooMuch => first | rfl | k_is | decide +kernel)
    (case uf_TooMuch => first | rfl | k_is | decide +kernel)
    (case ue_TooMuch => first | rfl | k_is | decide +kernel)
    (case ul_TooMuch => first | rfl | k_is | decide +kernel)
    (case us_TooMuch => first | rfl | k_is | decide +kernel)
    (case um_TooMuch => first | rfl | k_is | decide +kernel)
    (case ub_TooMuch => first | rfl | k_is | decide +kernel)
    (case up_TooMuch => first | rfl | k_is | decide +kernel)
    (case ut_TooMuch => first | rfl | k_is | decide +kernel)
    (case aC_NoDoughs => first | rfl | k_is | decide +kernel)
    (case xL_NoDoughs => first | rfl | k_is | decide +kernel)
    (case sa_NoDoughs => first | rfl | k_is | decide +kernel)
    (case eC_NoDoughs => first | rfl | k_is | decide +kernel)
    (case tC_NoDoughs => first | rfl | k_is | decide +kernel)
    (case kC_NoDoughs => first | rfl | k_is | decide +kernel)
    (case iC_NoDoughs => first | rfl | k_is | decide +kernel)
    (case sC_NoDoughs => first | rfl | k_is | decide +kernel)
    (case a1_NoDoughs => first | rfl | k_is | decide +kernel)
    (case t1_NoDoughs => first | rfl | k_is | decide +kernel)
    (case l1_NoDoughs => first | rfl | k_is | decide +kernel)
    (case c1_NoDoughs => first | rfl | k_is | decide +kernel)
    (case n1_NoDoughs => first | rfl | k_is | decide +kernel)
    (case n2_NoDoughs => first | rfl | k_is | decide +kernel)
    (case uc_NoDoughs => first | rfl | k_is | decide +kernel)
    (case uf_NoDoughs => first | rfl | k_is | decide +kernel)
    (case ue_NoDoughs => first | rfl | k_is | decide +kernel)
    (case ul_NoDoughs => first | rfl | k_is | decide +kernel)
    (case us_NoDoughs => first | rfl | k_is | decide +kernel)
    (case um_NoDoughs => first | rfl | k_is | decide +kernel)
    (case ub_NoDoughs => first | rfl | k_is | decide +kernel)
    (case up_NoDoughs => first | rfl | k_is | decide +kernel)
    (case ut_NoDoughs => first | rfl | k_is | decide +kernel)
    (case aC_NoText => first | rfl | k_is | decide +kernel)
    (case xL_NoText => first | rfl | k_is | decide +kernel)
    (case sa_NoText => first | rfl | k_is | decide +kernel)
    (case eC_NoText => first | rfl | k_is | decide +kernel)
    (case tC_NoText => first | rfl | k_is | decide +kernel)
    (case kC_NoText => first | rfl | k_is | decide +kernel)
    (case iC_NoText => first | rfl | k_is | decide +kernel)
    (case sC_NoText => first | rfl | k_is | decide +kernel)
    (case a1_NoText => first | rfl | k_is | decide +kernel)
    (case t1_NoText => first | rfl | k_is | decide +kernel)
    (case l1_NoText => first | rfl | k_is | decide +kernel)
    (case c1_NoText => first | rfl | k_is | decide +kernel)
    (case n1_NoText => first | rfl | k_is | decide +kernel)
    (case n2_NoText => first | rfl | k_is | decide +kernel)
    (case uc_NoText => first | rfl | k_is | decide +kernel)
    (case uf_NoText => first | rfl | k_is | decide +kernel)
    (case ue_NoText => first | rfl | k_is | decide +kernel)
    (case ul_NoText => first | rfl | k_is | decide +kernel)
    (case us_NoText => first | rfl | k_is | decide +kernel)
    (case um_NoText => first | rfl | k_is | decide +kernel)
    (case ub_NoText => first | rfl | k_is | decide +kernel)
    (case up_NoText => first | rfl | k_is | decide +kernel)
    (case ut_NoText => first | rfl | k_is | decide +kernel)
    (case aC_NoBack => first | rfl | k_is | decide +kernel)
    (case aC_NoDay => first | rfl | k_is | decide +kernel)
    (case aC_NoDays => first | rfl | k_is | decide +kernel)
    (case aC_NoGood => first | rfl | k_is | decide +kernel)
    (case aC_NoName => first | rfl | k_is | decide +kernel)
    (case aC_NoNumber => first | rfl | k_is | decide +kernel)
    (case aC_NoPart => first | rfl | k_is | decide +kernel)
    (case aC_NoRow => first | rfl | k_is | decide +kernel)
    (case aC_NotPlain => first | rfl | k_is | decide +kernel)
    (case aC_NotSteady => first | rfl | k_is | decide +kernel)
    (case aC_TooMany => first | rfl | k_is | decide +kernel)
    (case aC_BakeError => first | rfl | k_is | decide +kernel)
    (case q1_NoBack => k_exc)
    (case kC_NoBack => first | rfl | k_is | decide +kernel)
    (case eC_NoBack => first | rfl | k_is | decide +kernel)
    (case tC_NoBack => first | rfl | k_is | decide +kernel)
    (case q1_NoDay => k_exc)
    (case kC_NoDay => first | rfl | k_is | decide +kernel)
    (case eC_NoDay => first | rfl | k_is | decide +kernel)
    (case tC_NoDay => first | rfl | k_is | decide +kernel)
    (case q1_NoDays => k_exc)
    (case kC_NoDays => first | rfl | k_is | decide +kernel)
    (case eC_NoDays => first | rfl | k_is | decide +kernel)
    (case tC_NoDays => first | rfl | k_is | decide +kernel)
    (case q1_NoGood => k_exc)
    (case kC_NoGood => first | rfl | k_is | decide +kernel)
    (case eC_NoGood => first | rfl | k_is | decide +kernel)
    (case tC_NoGood => first | rfl | k_is | decide +kernel)
    (case q1_NoName => k_exc)
    (case kC_NoName => first | rfl | k_is | decide +kernel)
    (case eC_NoName => first | rfl | k_is | decide +kernel)
    (case tC_NoName => first | rfl | k_is | decide +kernel)
    (case q1_NoNumber => k_exc)
    (case kC_NoNumber => first | rfl | k_is | decide +kernel)
    (case eC_NoNumber => first | rfl | k_is | decide +kernel)
    (case tC_NoNumber => first | rfl | k_is | decide +kernel)
    (case q1_NoPart => k_exc)
    (case kC_NoPart => first | rfl | k_is | decide +kernel)
    (case eC_NoPart => first | rfl | k_is | decide +kernel)
    (case tC_NoPart => first | rfl | k_is | decide +kernel)
    (case q1_NoRow => k_exc)
    (case kC_NoRow => first | rfl | k_is | decide +kernel)
    (case eC_NoRow => first | rfl | k_is | decide +kernel)
    (case tC_NoRow => first | rfl | k_is | decide +kernel)
    (case q1_NotPlain => k_exc)
    (case kC_NotPlain => first | rfl | k_is | decide +kernel)
    (case eC_NotPlain => first | rfl | k_is | decide +kernel)
    (case tC_NotPlain => first | rfl | k_is | decide +kernel)
    (case q1_NotSteady => k_exc)
    (case kC_NotSteady => first | rfl | k_is | decide +kernel)
    (case eC_NotSteady => first | rfl | k_is | decide +kernel)
    (case tC_NotSteady => first | rfl | k_is | decide +kernel)
    (case q1_TooMany => k_exc)
    (case kC_TooMany => first | rfl | k_is | decide +kernel)
    (case eC_TooMany => first | rfl | k_is | decide +kernel)
    (case tC_TooMany => first | rfl | k_is | decide +kernel)
    (case x0_NoBack => first | rfl | k_is | decide +kernel)
    (case x1_NoBack => first | rfl | k_is | decide +kernel)
    (case x2_NoBack => first | rfl | k_is | decide +kernel)
    (case x3_NoBack => first | rfl | k_is | decide +kernel)
    (case x4_NoBack => first | rfl | k_is | decide +kernel)
    (case x5_NoBack => first | rfl | k_is | decide +kernel)
    (case x6_NoBack => first | rfl | k_is | decide +kernel)
    (case x7_NoBack => first | rfl | k_is | decide +kernel)
    (case xb_NoBack => first | rfl | k_is | decide +kernel)
    (case xm_NoBack => first | rfl | k_is | decide +kernel)
    (case kt_NoBack_NoBack => first | rfl | k_is | decide +kernel)
    (case kt_NoBack_NoBakery => first | rfl | k_is | decide +kernel)
    (case kt_NoBack_NoDay => first | rfl | k_is | decide +kernel)
    (case kt_NoBack_NoDays => first | rfl | k_is | decide +kernel)
    (case kt_NoBack_NoDoughs => first | rfl | k_is | decide +kernel)
    (case kt_NoBack_NoGood => first | rfl | k_is | decide +kernel)
    (case kt_NoBack_NoName => first | rfl | k_is | decide +kernel)
    (case kt_NoBack_NoNumber => first | rfl | k_is | decide +kernel)
    (case kt_NoBack_NoPart => first | rfl | k_is | decide +kernel)
    (case kt_NoBack_NoRow => first | rfl | k_is | decide +kernel)
    (case kt_NoBack_NoText => first | rfl | k_is | decide +kernel)
    (case kt_NoBack_NotPlain => first | rfl | k_is | decide +kernel)
    (case kt_NoBack_NotSteady => first | rfl | k_is | decide +kernel)
    (case kt_NoBack_TooMany => first | rfl | k_is | decide +kernel)
    (case kt_NoBack_TooMuch => first | rfl | k_is | decide +kernel)
    (case kt_NoBack_BakeError => first | rfl | k_is | decide +kernel)
    (case x0_NoBakery => first | rfl | k_is | decide +kernel)
    (case x1_NoBakery => first | rfl | k_is | decide +kernel)
    (case x2_NoBakery => first | rfl | k_is | decide +kernel)
    (case x3_NoBakery => first | rfl | k_is | decide +kernel)
    (case x4_NoBakery => first | rfl | k_is | decide +kernel)
    (case x5_NoBakery => first | rfl | k_is | decide +kernel)
    (case x6_NoBakery => first | rfl | k_is | decide +kernel)
    (case x7_NoBakery => first | rfl | k_is | decide +kernel)
    (case xb_NoBakery => first | rfl | k_is | decide +kernel)
    (case xm_NoBakery => first | rfl | k_is | decide +kernel)
    (case kt_NoBakery_NoBack => first | rfl | k_is | decide +kernel)
    (case kt_NoBakery_NoBakery => first | rfl | k_is | decide +kernel)
    (case kt_NoBakery_NoDay => first | rfl | k_is | decide +kernel)
    (case kt_NoBakery_NoDays => first | rfl | k_is | decide +kernel)
    (case kt_NoBakery_NoDoughs => first | rfl | k_is | decide +kernel)
    (case kt_NoBakery_NoGood => first | rfl | k_is | decide +kernel)
    (case kt_NoBakery_NoName => first | rfl | k_is | decide +kernel)
    (case kt_NoBakery_NoNumber => first | rfl | k_is | decide +kernel)
    (case kt_NoBakery_NoPart => first | rfl | k_is | decide +kernel)
    (case kt_NoBakery_NoRow => first | rfl | k_is | decide +kernel)
    (case kt_NoBakery_NoText => first | rfl | k_is | decide +kernel)
    (case kt_NoBakery_NotPlain => first | rfl | k_is | decide +kernel)
    (case kt_NoBakery_NotSteady => first | rfl | k_is | decide +kernel)
    (case kt_NoBakery_TooMany => first | rfl | k_is | decide +kernel)
    (case kt_NoBakery_TooMuch => first | rfl | k_is | decide +kernel)
    (case kt_NoBakery_BakeError => first | rfl | k_is | decide +kernel)
    (case x0_NoDay => first | rfl | k_is | decide +kernel)
    (case x1_NoDay => first | rfl | k_is | decide +kernel)
    (case x2_NoDay => first | rfl | k_is | decide +kernel)
    (case x3_NoDay => first | rfl | k_is | decide +kernel)
    (case x4_NoDay => first | rfl | k_is | decide +kernel)
    (case x5_NoDay => first | rfl | k_is | decide +kernel)
    (case x6_NoDay => first | rfl | k_is | decide +kernel)
    (case x7_NoDay => first | rfl | k_is | decide +kernel)
    (case xb_NoDay => first | rfl | k_is | decide +kernel)
    (case xm_NoDay => first | rfl | k_is | decide +kernel)
    (case kt_NoDay_NoBack => first | rfl | k_is | decide +kernel)
    (case kt_NoDay_NoBakery => first | rfl | k_is | decide +kernel)
    (case kt_NoDay_NoDay => first | rfl | k_is | decide +kernel)
    (case kt_NoDay_NoDays => first | rfl | k_is | decide +kernel)
    (case kt_NoDay_NoDoughs => first | rfl | k_is | decide +kernel)
    (case kt_NoDay_NoGood => first | rfl | k_is | decide +kernel)
    (case kt_NoDay_NoName => first | rfl | k_is | decide +kernel)
    (case kt_NoDay_NoNumber => first | rfl | k_is | decide +kernel)
    (case kt_NoDay_NoPart => first | rfl | k_is | decide +kernel)
    (case kt_NoDay_NoRow => first | rfl | k_is | decide +kernel)
    (case kt_NoDay_NoText => first | rfl | k_is | decide +kernel)
    (case kt_NoDay_NotPlain => first | rfl | k_is | decide +kernel)
    (case kt_NoDay_NotSteady => first | rfl | k_is | decide +kernel)
    (case kt_NoDay_TooMany => first | rfl | k_is | decide +kernel)
    (case kt_NoDay_TooMuch => first | rfl | k_is | decide +kernel)
    (case kt_NoDay_BakeError => first | rfl | k_is | decide +kernel)
    (case x0_NoDays => first | rfl | k_is | decide +kernel)
    (case x1_NoDays => first | rfl | k_is | decide +kernel)
    (case x2_NoDays => first | rfl | k_is | decide +kernel)
    (case x3_NoDays => first | rfl | k_is | decide +kernel)
    (case x4_NoDays => first | rfl | k_is | decide +kernel)
    (case x5_NoDays => first | rfl | k_is | decide +kernel)
    (case x6_NoDays => first | rfl | k_is | decide +kernel)
    (case x7_NoDays => first | rfl | k_is | decide +kernel)
    (case xb_NoDays => first | rfl | k_is | decide +kernel)
    (case xm_NoDays => first | rfl | k_is | decide +kernel)
    (case kt_NoDays_NoBack => first | rfl | k_is | decide +kernel)
    (case kt_NoDays_NoBakery => first | rfl | k_is | decide +kernel)
    (case kt_NoDays_NoDay => first | rfl | k_is | decide +kernel)
    (case kt_NoDays_NoDays => first | rfl | k_is | decide +kernel)
    (case kt_NoDays_NoDoughs => first | rfl | k_is | decide +kernel)
    (case kt_NoDays_NoGood => first | rfl | k_is | decide +kernel)
    (case kt_NoDays_NoName => first | rfl | k_is | decide +kernel)
    (case kt_NoDays_NoNumber => first | rfl | k_is | decide +kernel)
    (case kt_NoDays_NoPart => first | rfl | k_is | decide +kernel)
    (case kt_NoDays_NoRow => first | rfl | k_is | decide +kernel)
    (case kt_NoDays_NoText => first | rfl | k_is | decide +kernel)
    (case kt_NoDays_NotPlain => first | rfl | k_is | decide +kernel)
    (case kt_NoDays_NotSteady => first | rfl | k_is | decide +kernel)
    (case kt_NoDays_TooMany => first | rfl | k_is | decide +kernel)
    (case kt_NoDays_TooMuch => first | rfl | k_is | decide +kernel)
    (case kt_NoDays_BakeError => first | rfl | k_is | decide +kernel)
    (case x0_NoDoughs => first | rfl | k_is | decide +kernel)
    (case x1_NoDoughs => first | rfl | k_is | decide +kernel)
    (case x2_NoDoughs => first | rfl | k_is | decide +kernel)
    (case x3_NoDoughs => first | rfl | k_is | decide +kernel)
    (case x4_NoDoughs => first | rfl | k_is | decide +kernel)
    (case x5_NoDoughs => first | rfl | k_is | decide +kernel)
    (case x6_NoDoughs => first | rfl | k_is | decide +kernel)
    (case x7_NoDoughs => first | rfl | k_is | decide +kernel)
    (case xb_NoDoughs => first | rfl | k_is | decide +kernel)
    (case xm_NoDoughs => first | rfl | k_is | decide +kernel)
    (case kt_NoDoughs_NoBack => first | rfl | k_is | decide +kernel)
    (case kt_NoDoughs_NoBakery => first | rfl | k_is | decide +kernel)
    (case kt_NoDoughs_NoDay => first | rfl | k_is | decide +kernel)
    (case kt_NoDoughs_NoDays => first | rfl | k_is | decide +kernel)
    (case kt_NoDoughs_NoDoughs => first | rfl | k_is | decide +kernel)
    (case kt_NoDoughs_NoGood => first | rfl | k_is | decide +kernel)
    (case kt_NoDoughs_NoName => first | rfl | k_is | decide +kernel)
    (case kt_NoDoughs_NoNumber => first | rfl | k_is | decide +kernel)
    (case kt_NoDoughs_NoPart => first | rfl | k_is | decide +kernel)
    (case kt_NoDoughs_NoRow => first | rfl | k_is | decide +kernel)
    (case kt_NoDoughs_NoText => first | rfl | k_is | decide +kernel)
    (case kt_NoDoughs_NotPlain => first | rfl | k_is | decide +kernel)
    (case kt_NoDoughs_NotSteady => first | rfl | k_is | decide +kernel)
    (case kt_NoDoughs_TooMany => first | rfl | k_is | decide +kernel)
    (case kt_NoDoughs_TooMuch => first | rfl | k_is | decide +kernel)
    (case kt_NoDoughs_BakeError => first | rfl | k_is | decide +kernel)
    (case x0_NoGood => first | rfl | k_is | decide +kernel)
    (case x1_NoGood => first | rfl | k_is | decide +kernel)
    (case x2_NoGood => first | rfl | k_is | decide +kernel)
    (case x3_NoGood => first | rfl | k_is | decide +kernel)
    (case x4_NoGood => first | rfl | k_is | decide +kernel)
    (case x5_NoGood => first | rfl | k_is | decide +kernel)
    (case x6_NoGood => first | rfl | k_is | decide +kernel)
    (case x7_NoGood => first | rfl | k_is | decide +kernel)
    (case xb_NoGood => first | rfl | k_is | decide +kernel)
    (case xm_NoGood => first | rfl | k_is | decide +kernel)
    (case kt_NoGood_NoBack => first | rfl | k_is | decide +kernel)
    (case kt_NoGood_NoBakery => first | rfl | k_is | decide +kernel)
    (case kt_NoGood_NoDay => first | rfl | k_is | decide +kernel)
    (case kt_NoGood_NoDays => first | rfl | k_is | decide +kernel)
    (case kt_NoGood_NoDoughs => first | rfl | k_is | decide +kernel)
    (case kt_NoGood_NoGood => first | rfl | k_is | decide +kernel)
    (case kt_NoGood_NoName => first | rfl | k_is | decide +kernel)
    (case kt_NoGood_NoNumber => first | rfl | k_is | decide +kernel)
    (case kt_NoGood_NoPart => first | rfl | k_is | decide +kernel)
    (case kt_NoGood_NoRow => first | rfl | k_is | decide +kernel)
    (case kt_NoGood_NoText => first | rfl | k_is | decide +kernel)
    (case kt_NoGood_NotPlain => first | rfl | k_is | decide +kernel)
    (case kt_NoGood_NotSteady => first | rfl | k_is | decide +kernel)
    (case kt_NoGood_TooMany => first | rfl | k_is | decide +kernel)
    (case kt_NoGood_TooMuch => first | rfl | k_is | decide +kernel)
    (case kt_NoGood_BakeError => first | rfl | k_is | decide +kernel)
    (case x0_NoName => first | rfl | k_is | decide +kernel)
    (case x1_NoName => first | rfl | k_is | decide +kernel)
    (case x2_NoName => first | rfl | k_is | decide +kernel)
    (case x3_NoName => first | rfl | k_is | decide +kernel)
    (case x4_NoName => first | rfl | k_is | decide +kernel)
    (case x5_NoName => first | rfl | k_is | decide +kernel)
    (case x6_NoName => first | rfl | k_is | decide +kernel)
    (case x7_NoName => first | rfl | k_is | decide +kernel)
    (case xb_NoName => first | rfl | k_is | decide +kernel)
    (case xm_NoName => first | rfl | k_is | decide +kernel)
    (case kt_NoName_NoBack => first | rfl | k_is | decide +kernel)
    (case kt_NoName_NoBakery => first | rfl | k_is | decide +kernel)
    (case kt_NoName_NoDay => first | rfl | k_is | decide +kernel)
    (case kt_NoName_NoDays => first | rfl | k_is | decide +kernel)
    (case kt_NoName_NoDoughs => first | rfl | k_is | decide +kernel)
    (case kt_NoName_NoGood => first | rfl | k_is | decide +kernel)
    (case kt_NoName_NoName => first | rfl | k_is | decide +kernel)
    (case kt_NoName_NoNumber => first | rfl | k_is | decide +kernel)
    (case kt_NoName_NoPart => first | rfl | k_is | decide +kernel)
    (case kt_NoName_NoRow => first | rfl | k_is | decide +kernel)
    (case kt_NoName_NoText => first | rfl | k_is | decide +kernel)
    (case kt_NoName_NotPlain => first | rfl | k_is | decide +kernel)
    (case kt_NoName_NotSteady => first | rfl | k_is | decide +kernel)
    (case kt_NoName_TooMany => first | rfl | k_is | decide +kernel)
    (case kt_NoName_TooMuch => first | rfl | k_is | decide +kernel)
    (case kt_NoName_BakeError => first | rfl | k_is | decide +kernel)
    (case x0_NoNumber => first | rfl | k_is | decide +kernel)
    (case x1_NoNumber => first | rfl | k_is | decide +kernel)
    (case x2_NoNumber => first | rfl | k_is | decide +kernel)
    (case x3_NoNumber => first | rfl | k_is | decide +kernel)
    (case x4_NoNumber => first | rfl | k_is | decide +kernel)
    (case x5_NoNumber => first | rfl | k_is | decide +kernel)
    (case x6_NoNumber => first | rfl | k_is | decide +kernel)
    (case x7_NoNumber => first | rfl | k_is | decide +kernel)
    (case xb_NoNumber => first | rfl | k_is | decide +kernel)
    (case xm_NoNumber => first | rfl | k_is | decide +kernel)
    (case kt_NoNumber_NoBack => first | rfl | k_is | decide +kernel)
    (case kt_NoNumber_NoBakery => first | rfl | k_is | decide +kernel)
    (case kt_NoNumber_NoDay => first | rfl | k_is | decide +kernel)
    (case kt_NoNumber_NoDays => first | rfl | k_is | decide +kernel)
    (case kt_NoNumber_NoDoughs => first | rfl | k_is | decide +kernel)
    (case kt_NoNumber_NoGood => first | rfl | k_is | decide +kernel)
    (case kt_NoNumber_NoName => first | rfl | k_is | decide +kernel)
    (case kt_NoNumber_NoNumber => first | rfl | k_is | decide +kernel)
    (case kt_NoNumber_NoPart => first | rfl | k_is | decide +kernel)
    (case kt_NoNumber_NoRow => first | rfl | k_is | decide +kernel)
    (case kt_NoNumber_NoText => first | rfl | k_is | decide +kernel)
    (case kt_NoNumber_NotPlain => first | rfl | k_is | decide +kernel)
    (case kt_NoNumber_NotSteady => first | rfl | k_is | decide +kernel)
    (case kt_NoNumber_TooMany => first | rfl | k_is | decide +kernel)
    (case kt_NoNumber_TooMuch => first | rfl | k_is | decide +kernel)
    (case kt_NoNumber_BakeError => first | rfl | k_is | decide +kernel)
    (case x0_NoPart => first | rfl | k_is | decide +kernel)
    (case x1_NoPart => first | rfl | k_is | decide +kernel)
    (case x2_NoPart => first | rfl | k_is | decide +kernel)
    (case x3_NoPart => first | rfl | k_is | decide +kernel)
    (case x4_NoPart => first | rfl | k_is | decide +kernel)
    (case x5_NoPart => first | rfl | k_is | decide +kernel)
    (case x6_NoPart => first | rfl | k_is | decide +kernel)
    (case x7_NoPart => first | rfl | k_is | decide +kernel)
    (case xb_NoPart => first | rfl | k_is | decide +kernel)
    (case xm_NoPart => first | rfl | k_is | decide +kernel)
    (case kt_NoPart_NoBack => first | rfl | k_is | decide +kernel)
    (case kt_NoPart_NoBakery => first | rfl | k_is | decide +kernel)
    (case kt_NoPart_NoDay => first | rfl | k_is | decide +kernel)
    (case kt_NoPart_NoDays => first | rfl | k_is | decide +kernel)
    (case kt_NoPart_NoDoughs => first | rfl | k_is | decide +kernel)
    (case kt_NoPart_NoGood => first | rfl | k_is | decide +kernel)
    (case kt_NoPart_NoName => first | rfl | k_is | decide +kernel)
    (case kt_NoPart_NoNumber => first | rfl | k_is | decide +kernel)
    (case kt_NoPart_NoPart => first | rfl | k_is | decide +kernel)
    (case kt_NoPart_NoRow => first | rfl | k_is | decide +kernel)
    (case kt_NoPart_NoText => first | rfl | k_is | decide +kernel)
    (case kt_NoPart_NotPlain => first | rfl | k_is | decide +kernel)
    (case kt_NoPart_NotSteady => first | rfl | k_is | decide +kernel)
    (case kt_NoPart_TooMany => first | rfl | k_is | decide +kernel)
    (case kt_NoPart_TooMuch => first | rfl | k_is | decide +kernel)
    (case kt_NoPart_BakeError => first | rfl | k_is | decide +kernel)
    (case x0_NoRow => first | rfl | k_is | decide +kernel)
    (case x1_NoRow => first | rfl | k_is | decide +kernel)
    (case x2_NoRow => first | rfl | k_is | decide +kernel)
    (case x3_NoRow => first | rfl | k_is | decide +kernel)
    (case x4_NoRow => first | rfl | k_is | decide +kernel)
    (case x5_NoRow => first | rfl | k_is | decide +kernel)
    (case x6_NoRow => first | rfl | k_is | decide +kernel)
    (case x7_NoRow => first | rfl | k_is | decide +kernel)
    (case xb_NoRow => first | rfl | k_is | decide +kernel)
    (case xm_NoRow => first | rfl | k_is | decide +kernel)
    (case kt_NoRow_NoBack => first | rfl | k_is | decide +kernel)
    (case kt_NoRow_NoBakery => first | rfl | k_is | decide +kernel)
    (case kt_NoRow_NoDay => first | rfl | k_is | decide +kernel)
    (case kt_NoRow_NoDays => first | rfl | k_is | decide +kernel)
    (case kt_NoRow_NoDoughs => first | rfl | k_is | decide +kernel)
    (case kt_NoRow_NoGood => first | rfl | k_is | decide +kernel)
    (case kt_NoRow_NoName => first | rfl | k_is | decide +kernel)
    (case kt_NoRow_NoNumber => first | rfl | k_is | decide +kernel)
    (case kt_NoRow_NoPart => first | rfl | k_is | decide +kernel)
    (case kt_NoRow_NoRow => first | rfl | k_is | decide +kernel)
    (case kt_NoRow_NoText => first | rfl | k_is | decide +kernel)
    (case kt_NoRow_NotPlain => first | rfl | k_is | decide +kernel)
    (case kt_NoRow_NotSteady => first | rfl | k_is | decide +kernel)
    (case kt_NoRow_TooMany => first | rfl | k_is | decide +kernel)
    (case kt_NoRow_TooMuch => first | rfl | k_is | decide +kernel)
    (case kt_NoRow_BakeError => first | rfl | k_is | decide +kernel)
    (case x0_NoText => first | rfl | k_is | decide +kernel)
    (case x1_NoText => first | rfl | k_is | decide +kernel)
    (case x2_NoText => first | rfl | k_is | decide +kernel)
    (case x3_NoText => first | rfl | k_is | decide +kernel)
    (case x4_NoText => first | rfl | k_is | decide +kernel)
    (case x5_NoText => first | rfl | k_is | decide +kernel)
    (case x6_NoText => first | rfl | k_is | decide +kernel)
    (case x7_NoText => first | rfl | k_is | decide +kernel)
    (case xb_NoText => first | rfl | k_is | decide +kernel)
    (case xm_NoText => first | rfl | k_is | decide +kernel)
    (case kt_NoText_NoBack => first | rfl | k_is | decide +kernel)
    (case kt_NoText_NoBakery => first | rfl | k_is | decide +kernel)
    (case kt_NoText_NoDay => first | rfl | k_is | decide +kernel)
    (case kt_NoText_NoDays => first | rfl | k_is | decide +kernel)
    (case kt_NoText_NoDoughs => first | rfl | k_is | decide +kernel)
    (case kt_NoText_NoGood => first | rfl | k_is | decide +kernel)
    (case kt_NoText_NoName => first | rfl | k_is | decide +kernel)
    (case kt_NoText_NoNumber => first | rfl | k_is | decide +kernel)
    (case kt_NoText_NoPart => first | rfl | k_is | decide +kernel)
    (case kt_NoText_NoRow => first | rfl | k_is | decide +kernel)
    (case kt_NoText_NoText => first | rfl | k_is | decide +kernel)
    (case kt_NoText_NotPlain => first | rfl | k_is | decide +kernel)
    (case kt_NoText_NotSteady => first | rfl | k_is | decide +kernel)
    (case kt_NoText_TooMany => first | rfl | k_is | decide +kernel)
    (case kt_NoText_TooMuch => first | rfl | k_is | decide +kernel)
    (case kt_NoText_BakeError => first | rfl | k_is | decide +kernel)
    (case x0_NotPlain => first | rfl | k_is | decide +kernel)
    (case x1_NotPlain => first | rfl | k_is | decide +kernel)
    (case x2_NotPlain => first | rfl | k_is | decide +kernel)
    (case x3_NotPlain => first | rfl | k_is | decide +kernel)
    (case x4_NotPlain => first | rfl | k_is | decide +kernel)
    (case x5_NotPlain => first | rfl | k_is | decide +kernel)
    (case x6_NotPlain => first | rfl | k_is | decide +kernel)
    (case x7_NotPlain => first | rfl | k_is | decide +kernel)
    (case xb_NotPlain => first | rfl | k_is | decide +kernel)
    (case xm_NotPlain => first | rfl | k_is | decide +kernel)
    (case kt_NotPlain_NoBack => first | rfl | k_is | decide +kernel)
    (case kt_NotPlain_NoBakery => first | rfl | k_is | decide +kernel)
    (case kt_NotPlain_NoDay => first | rfl | k_is | decide +kernel)
    (case kt_NotPlain_NoDays => first | rfl | k_is | decide +kernel)
    (case kt_NotPlain_NoDoughs => first | rfl | k_is | decide +kernel)
    (case kt_NotPlain_NoGood => first | rfl | k_is | decide +kernel)
    (case kt_NotPlain_NoName => first | rfl | k_is | decide +kernel)
    (case kt_NotPlain_NoNumber => first | rfl | k_is | decide +kernel)
    (case kt_NotPlain_NoPart => first | rfl | k_is | decide +kernel)
    (case kt_NotPlain_NoRow => first | rfl | k_is | decide +kernel)
    (case kt_NotPlain_NoText => first | rfl | k_is | decide +kernel)
    (case kt_NotPlain_NotPlain => first | rfl | k_is | decide +kernel)
    (case kt_NotPlain_NotSteady => first | rfl | k_is | decide +kernel)
    (case kt_NotPlain_TooMany => first | rfl | k_is | decide +kernel)
    (case kt_NotPlain_TooMuch => first | rfl | k_is | decide +kernel)
    (case kt_NotPlain_BakeError => first | rfl | k_is | decide +kernel)
    (case x0_NotSteady => first | rfl | k_is | decide +kernel)
    (case x1_NotSteady => first | rfl | k_is | decide +kernel)
    (case x2_NotSteady => first | rfl | k_is | decide +kernel)
    (case x3_NotSteady => first | rfl | k_is | decide +kernel)
    (case x4_NotSteady => first | rfl | k_is | decide +kernel)
    (case x5_NotSteady => first | rfl | k_is | decide +kernel)
    (case x6_NotSteady => first | rfl | k_is | decide +kernel)
    (case x7_NotSteady => first | rfl | k_is | decide +kernel)
    (case xb_NotSteady => first | rfl | k_is | decide +kernel)
    (case xm_NotSteady => first | rfl | k_is | decide +kernel)
    (case kt_NotSteady_NoBack => first | rfl | k_is | decide +kernel)
    (case kt_NotSteady_NoBakery => first | rfl | k_is | decide +kernel)
    (case kt_NotSteady_NoDay => first | rfl | k_is | decide +kernel)
    (case kt_NotSteady_NoDays => first | rfl | k_is | decide +kernel)
    (case kt_NotSteady_NoDoughs => first | rfl | k_is | decide +kernel)
    (case kt_NotSteady_NoGood => first | rfl | k_is | decide +kernel)
    (case kt_NotSteady_NoName => first | rfl | k_is | decide +kernel)
    (case kt_NotSteady_NoNumber => first | rfl | k_is | decide +kernel)
    (case kt_NotSteady_NoPart => first | rfl | k_is | decide +kernel)
    (case kt_NotSteady_NoRow => first | rfl | k_is | decide +kernel)
    (case kt_NotSteady_NoText => first | rfl | k_is | decide +kernel)
    (case kt_NotSteady_NotPlain => first | rfl | k_is | decide +kernel)
    (case kt_NotSteady_NotSteady => first | rfl | k_is | decide +kernel)
    (case kt_NotSteady_TooMany => first | rfl | k_is | decide +kernel)
    (case kt_NotSteady_TooMuch => first | rfl | k_is | decide +kernel)
    (case kt_NotSteady_BakeError => first | rfl | k_is | decide +kernel)
    (case x0_TooMany => first | rfl | k_is | decide +kernel)
    (case x1_TooMany => first | rfl | k_is | decide +kernel)
    (case x2_TooMany => first | rfl | k_is | decide +kernel)
    (case x3_TooMany => first | rfl | k_is | decide +kernel)
    (case x4_TooMany => first | rfl | k_is | decide +kernel)
    (case x5_TooMany => first | rfl | k_is | decide +kernel)
    (case x6_TooMany => first | rfl | k_is | decide +kernel)
    (case x7_TooMany => first | rfl | k_is | decide +kernel)
    (case xb_TooMany => first | rfl | k_is | decide +kernel)
    (case xm_TooMany => first | rfl | k_is | decide +kernel)
    (case kt_TooMany_NoBack => first | rfl | k_is | decide +kernel)
    (case kt_TooMany_NoBakery => first | rfl | k_is | decide +kernel)
    (case kt_TooMany_NoDay => first | rfl | k_is | decide +kernel)
    (case kt_TooMany_NoDays => first | rfl | k_is | decide +kernel)
    (case kt_TooMany_NoDoughs => first | rfl | k_is | decide +kernel)
    (case kt_TooMany_NoGood => first | rfl | k_is | decide +kernel)
    (case kt_TooMany_NoName => first | rfl | k_is | decide +kernel)
    (case kt_TooMany_NoNumber => first | rfl | k_is | decide +kernel)
    (case kt_TooMany_NoPart => first | rfl | k_is | decide +kernel)
    (case kt_TooMany_NoRow => first | rfl | k_is | decide +kernel)
    (case kt_TooMany_NoText => first | rfl | k_is | decide +kernel)
    (case kt_TooMany_NotPlain => first | rfl | k_is | decide +kernel)
    (case kt_TooMany_NotSteady => first | rfl | k_is | decide +kernel)
    (case kt_TooMany_TooMany => first | rfl | k_is | decide +kernel)
    (case kt_TooMany_TooMuch => first | rfl | k_is | decide +kernel)
    (case kt_TooMany_BakeError => first | rfl | k_is | decide +kernel)
    (case x0_TooMuch => first | rfl | k_is | decide +kernel)
    (case x1_TooMuch => first | rfl | k_is | decide +kernel)
    (case x2_TooMuch => first | rfl | k_is | decide +kernel)
    (case x3_TooMuch => first | rfl | k_is | decide +kernel)
    (case x4_TooMuch => first | rfl | k_is | decide +kernel)
    (case x5_TooMuch => first | rfl | k_is | decide +kernel)
    (case x6_TooMuch => first | rfl | k_is | decide +kernel)
    (case x7_TooMuch => first | rfl | k_is | decide +kernel)
    (case xb_TooMuch => first | rfl | k_is | decide +kernel)
    (case xm_TooMuch => first | rfl | k_is | decide +kernel)
    (case kt_TooMuch_NoBack => first | rfl | k_is | decide +kernel)
    (case kt_TooMuch_NoBakery => first | rfl | k_is | decide +kernel)
    (case kt_TooMuch_NoDay => first | rfl | k_is | decide +kernel)
    (case kt_TooMuch_NoDays => first | rfl | k_is | decide +kernel)
    (case kt_TooMuch_NoDoughs => first | rfl | k_is | decide +kernel)
    (case kt_TooMuch_NoGood => first | rfl | k_is | decide +kernel)
    (case kt_TooMuch_NoName => first | rfl | k_is | decide +kernel)
    (case kt_TooMuch_NoNumber => first | rfl | k_is | decide +kernel)
    (case kt_TooMuch_NoPart => first | rfl | k_is | decide +kernel)
    (case kt_TooMuch_NoRow => first | rfl | k_is | decide +kernel)
    (case kt_TooMuch_NoText => first | rfl | k_is | decide +kernel)
    (case kt_TooMuch_NotPlain => first | rfl | k_is | decide +kernel)
    (case kt_TooMuch_NotSteady => first | rfl | k_is | decide +kernel)
    (case kt_TooMuch_TooMany => first | rfl | k_is | decide +kernel)
    (case kt_TooMuch_TooMuch => first | rfl | k_is | decide +kernel)
    (case kt_TooMuch_BakeError => first | rfl | k_is | decide +kernel)
    (case z_len => k_is)
    (case z_max => k_is)
    (case z_min => k_is)
    (case z_range => k_is)
    (case z_isinstance => k_is)
    (case z_int => k_is)
    (case z_bool => k_is)
    (case z_list => k_is)
    (case z_tuple => k_is)
    (case z_all => k_is)
    (case z_sum => k_is)
    (case z_repr => k_is)
    (case z_enumerate => k_is)
    (case z_ValueError => k_is)
    (case z_super => k_is)


