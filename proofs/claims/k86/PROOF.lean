import PyProof.Rows.All
import Wide.All
import OpenK.AllK
import Wide.FinOn
import HandS.Base
import HandS.Call
import HandS.List
import HandS.Comp
import HandS.Ends
import HandS.Dict
import HandS.Iter
import HandS.Text
import HandS.Words
import HandS.WordsList
import HandS.Wide
import HandS.IsInst
import HandS.Walk
import HandS.Style
import HandS.NoneIn
import HandS.EndBits
import PyProof.ReprRoads
import PyProof.ReprLen
import HandS.Sort
import HandS.Conv
import HandS.RevRange
import HandS.WideBits
import HandS.More
import HandS.Small
import HandS.Exc
import HandS.ExcInit
import HandS.Nested
import KE.KExcSuper
import KE.KSuper
import HandS.ForExc
import HandS.ExcOwn
import HandS.TryOnly
import HandS.FStr
import HandS.WordsExc
import PyProof.FString2
import PyProof.Rows.SeqMore
import PyProof.NeKinds
import HandS.TupAny
import HandS.SortKw
import HandS.SortInts
import PyProof.MinMaxWalk
import PyProof.WalkInts
import HandS.Zip
import HandS.SetFor
import HandS.Strs
import HandS.TupSets
import HandS.TupLe
import KE.GoesSet
import KE.GoesMore
import HandS.ExcValue
import PySem.Challenge.RW_bakeahead_k86_whole_prices_times_and_mor
set_option Elab.async false
set_option linter.all false
set_option maxRecDepth 100000
set_option maxHeartbeats 4000000
namespace Bk
open PySem PySem.Spec PyProof.Rows L2
/-! ### a def of the text with its promise -/
structure Def (P : Program) (w : World) (K : PySem.W.Frag) (mg : Str → Option Value) (base : Heap) (x : Str) (k : Nat) (ps : List Str) (sp : Sp) : Prop where
  ex : ∃ (f : Addr) (fd : FuncData), mg x = some (.ref f) ∧ PySem.W.keepIn K (.ref f) = true ∧ Binds K fd ps [] ∧ FnOk P w K mg base CX0 k f fd ps sp
theorem pe_callD {X : Cx} {x : Str} {k j : Nat} {ps : List Str} {sp : Sp} {e : Expr} {es : List Expr} {t : TA} {p pos : Pos} (D : Def X.prog X.w X.K X.mg X.base x k ps sp) (hr : Room j X.A) (hg : Gl X x) (ha : PA X (e :: es) t)
    (hkj : k ≤ j := by omega) (hdb : (x == ("__debug__" : Str)) = false := by decide) (he : starEach (e :: es) X.env = (false, eval e X.env) :: starEach es X.env := by rfl) (hpl : (backTo pos (starEach es X.env)).any (·.1) = false := by rfl) :
    PE X (.Call (.Name x p) (e :: es) [] pos) (tCall sp [] E0 t) := by
  obtain ⟨f, fd, hm, hk, hb, F⟩ := D.ex
  exact pe_call F (hr.mono hkj) hg hm hk hb .nil pass0 ha hdb he hpl
theorem same_upd {H : Hp} {p : Addr} {o : HO} (h : H p = none) : Same H (upd H p o) := fun b x e => by
  rw [upd_ne (ne_of_none e h)]
  exact e
/-- what H does not know may change -/
theorem same_mut {H H' : Hp} {p : Addr} {o : HO} (e : Same H H') (h : H p = none) : Same H (upd H' p o) := fun b x q => by
  rw [upd_ne (ne_of_none q h)]
  exact e b x q
theorem _root_.L2.SqL.upd_ {K : PySem.W.Frag} {H : Hp} {a p : Addr} {o : HO} {xs : List V} (h : SqL K H a xs) (hp : H p = none) : SqL K (upd H p o) a xs := (same_upd hp).seq h
theorem Same.tup {K : PySem.W.Frag} {H H' : Hp} {a : Addr} {xs : List V} (e : Same H H') (h : SqT K H a xs) : SqT K H' a xs := by
  rcases h with (h | ⟨o, h⟩) | h
  · exact .inl (.inl (e _ _ h))
  · exact .inl (.inr ⟨o, e _ _ h⟩)
  · exact .inr h
/-- the written part of a def's place -/
theorem cxK {CX : CXT} {P : Program} {w : World} {K : PySem.W.Frag} {mg : Str → Option Value} {base : Heap} {N : List Str} {qual : Str} {scope : Scope} {f : Addr} {cd : Value} {A : Around} {outer : List Env} {s : Shared} {H : Hp} {E : XK} :
    (cxOf CX P w K mg base N qual scope f cd A outer s H E).K = K := rfl
theorem rI_ii {C : Int → Int → Prop} {g : Int → Int → V} {i j : Int} {H : Hp} {Q : VK} : rI C g (.int i) (.int j) H Q = (C i j ∧ Q (g i j) H) := propext ⟨fun ⟨a, b, e1, e2, h⟩ => by cases e1; cases e2; exact h, fun h => ⟨i, j, rfl, rfl, h⟩⟩
theorem rI0_ii {g : Int → Int → V} {i j : Int} {H : Hp} {Q : VK} : rI0 g (.int i) (.int j) H Q = Q (g i j) H := propext ⟨fun ⟨a, b, e1, e2, h⟩ => by cases e1; cases e2; exact h, fun h => ⟨i, j, rfl, rfl, h⟩⟩
theorem rU_i {g : Int → V} {i : Int} {H : Hp} {Q : VK} : rU g (.int i) H Q = Q (g i) H := propext ⟨fun ⟨a, e1, h⟩ => by cases e1; exact h, fun h => ⟨i, rfl, h⟩⟩
theorem rIxL_r {K : PySem.W.Frag} {p : Addr} {i : Int} {H : Hp} {Q : VK} : rIxL K (.ref p) (.int i) H Q = ∃ xs v, SqL K H p xs ∧ atI xs i = some v ∧ Q v H := propext ⟨fun ⟨a, xs, b, v, e1, e2, h⟩ => by cases e1; cases e2; exact ⟨xs, v, h⟩, fun ⟨xs, v, h⟩ => ⟨p, xs, i, v, rfl, rfl, h⟩⟩
theorem rIxT_r {K : PySem.W.Frag} {p : Addr} {i : Int} {H : Hp} {Q : VK} : rIxT K (.ref p) (.int i) H Q = ∃ xs v, SqT K H p xs ∧ atI xs i = some v ∧ Q v H := propext ⟨fun ⟨a, xs, b, v, e1, e2, h⟩ => by cases e1; cases e2; exact ⟨xs, v, h⟩, fun ⟨xs, v, h⟩ => ⟨p, xs, i, v, rfl, rfl, h⟩⟩
theorem rAppend_r {l : Addr} {y : V} {H : Hp} {Q : VK} : rAppend (.ref l) [y] H Q = ∃ xs, H l = some (.lst xs) ∧ xs.length < sizeLine ∧ Q .non (upd H l (.lst (xs ++ [y]))) :=
  propext ⟨fun ⟨a, xs, b, e1, e2, h⟩ => by cases e1; cases e2; exact ⟨xs, h⟩, fun ⟨xs, h⟩ => ⟨l, xs, y, rfl, rfl, h⟩⟩
theorem tyL {K : PySem.W.Frag} {l : Addr} {H : Hp} {xs : List V} (h : SqL K H l xs) : tyV K "list" (.ref l) H := .inl ⟨rfl, xs, h⟩
theorem atI_of {α : Type} {xs : List α} {i : Int} {v : α} (h0 : 0 ≤ i) (h : xs[i.toNat]? = some v) : atI xs i = some v := by
  have e : i = ((i.toNat : Nat) : Int) := by omega
  rw [e]
  exact atI_nat h
theorem atI_map {α : Type} {f : α → V} {xs : List α} {i : Int} {v : α} (h0 : 0 ≤ i) (h : xs[i.toNat]? = some v) : atI (xs.map f) i = some (f v) := atI_of h0 (by rw [List.getElem?_map, h]; rfl)
theorem sz100 {n : Nat} (h : n ≤ 100000) : n ≤ sizeLine := Nat.le_trans h (by decide)
theorem sz100l {n : Nat} (h : n < 100000) : n < sizeLine := Nat.lt_of_lt_of_le h (by decide)
/-! ### calls of built-ins by named readings -/
def rMx : List V → Hp → VK → Prop := fun xs H Q => ∃ i j, xs = [.int i, .int j] ∧ Q (.int (if j > i then j else i)) H
def rMn : List V → Hp → VK → Prop := fun xs H Q => ∃ i j, xs = [.int i, .int j] ∧ Q (.int (if j < i then j else i)) H
theorem call_mx {X : Cx} (hc : X.calm = true) : CallR X (.builtin "max") rMx := call_max2 hc
theorem call_mn {X : Cx} (hc : X.calm = true) : CallR X (.builtin "min") rMn := call_min2 hc
theorem rMx_ii {i j : Int} {H : Hp} {Q : VK} : rMx [.int i, .int j] H Q = Q (.int (if j > i then j else i)) H := propext ⟨fun ⟨a, b, e, h⟩ => by cases e; exact h, fun h => ⟨i, j, rfl, h⟩⟩
theorem rMn_ii {i j : Int} {H : Hp} {Q : VK} : rMn [.int i, .int j] H Q = Q (.int (if j < i then j else i)) H := propext ⟨fun ⟨a, b, e, h⟩ => by cases e; exact h, fun h => ⟨i, j, rfl, h⟩⟩
/-- len of a list, of a tuple -/
def rLnL (K : PySem.W.Frag) : List V → Hp → VK → Prop := fun xs H Q => ∃ p ys, xs = [.ref p] ∧ SqL K H p ys ∧ Q (.int ys.length) H
def rLnT (K : PySem.W.Frag) : List V → Hp → VK → Prop := fun xs H Q => ∃ p ys, xs = [.ref p] ∧ SqT K H p ys ∧ Q (.int ys.length) H
theorem call_lnL {X : Cx} : CallR X (.builtin "len") (rLnL X.K) := fun pins s σ H xs us Q I r ⟨p, ys, e, h, q⟩ => call_len_seq pins s σ H xs us Q I r ⟨p, ys, e, .inl h, q⟩
theorem call_lnT {X : Cx} : CallR X (.builtin "len") (rLnT X.K) := fun pins s σ H xs us Q I r ⟨p, ys, e, h, q⟩ => call_len_seq pins s σ H xs us Q I r ⟨p, ys, e, .inr h, q⟩
theorem rLnL_r {K : PySem.W.Frag} {p : Addr} {H : Hp} {Q : VK} : rLnL K [.ref p] H Q = ∃ ys, SqL K H p ys ∧ Q (.int ys.length) H := propext ⟨fun ⟨a, ys, e, h⟩ => by cases e; exact ⟨ys, h⟩, fun ⟨ys, h⟩ => ⟨p, ys, rfl, h⟩⟩
theorem rLnT_r {K : PySem.W.Frag} {p : Addr} {H : Hp} {Q : VK} : rLnT K [.ref p] H Q = ∃ ys, SqT K H p ys ∧ Q (.int ys.length) H := propext ⟨fun ⟨a, ys, e, h⟩ => by cases e; exact ⟨ys, h⟩, fun ⟨ys, h⟩ => ⟨p, ys, rfl, h⟩⟩
/-- for k in range(n), range(a, b) -/
theorem q_range1 {ta : TA} {n : Int} {g : TG} {tb : TS} {D : Ends} {σ : L2.St} {H : Hp} (h : ta σ H fun vs H1 => vs = [.int n] ∧ H1 = H) (h1 : n < 2 ^ 62) (h0 : -(2 ^ 62) ≤ n) (Pv : Nat → L2.St → Hp → Prop)
    (hm : ∀ {P Q : List V → Hp → Prop}, ta σ H P → (∀ vs H', P vs H' → Q vs H') → ta σ H Q)
    (a : Pv 0 σ H) (hs : ∀ i σ H, i < n.toNat → Pv i σ H → g (.int (i : Int)) σ H fun σ2 H2 => tb { D with nx := Pv (i + 1), ct := Pv (i + 1), bk := D.nx } σ2 H2) (hd : ∀ σ H, Pv n.toNat σ H → D.nx σ H) : tFor (iRng1 ta) g tb D σ H := by
  refine hm h fun vs H1 e => ?_
  obtain ⟨rfl, rfl⟩ := e
  exact ⟨n, rfl, h0, h1, for_range (lo := 0) (n := n.toNat) Pv a (fun i σ H hi p => by rw [Int.zero_add]; exact hs i σ H hi p) hd⟩
/-! ### any thing, as data -/
mutual
inductive Th (K : PySem.W.Frag) (H : Hp) : V → PyData → Prop
  | non : Th K H .non .none
  | bl (b : Bool) : Th K H (.bl b) (.bool b)
  | int (i : Int) : Th K H (.int i) (.int i)
  | str (x : Str) : Th K H (.str x) (.str x)
  | lst {a : Addr} {xs : List V} {ds : List PyData} : SqL K H a xs → ThAll K H xs ds → Th K H (.ref a) (.list ds)
  | tup {a : Addr} {xs : List V} {ds : List PyData} : SqT K H a xs → ThAll K H xs ds → Th K H (.ref a) (.tuple ds)
  | dic {a : Addr} : H a = some (.dK []) → Th K H (.ref a) (.dict [])
inductive ThAll (K : PySem.W.Frag) (H : Hp) : List V → List PyData → Prop
  | nil : ThAll K H [] []
  | cons {v : V} {vs : List V} {d : PyData} {ds : List PyData} : Th K H v d → ThAll K H vs ds → ThAll K H (v :: vs) (d :: ds)
end
mutual
theorem Th.same {K : PySem.W.Frag} {H H' : Hp} (e : Same H H') : ∀ {v : V} {d : PyData}, Th K H v d → Th K H' v d
  | _, _, .non => .non
  | _, _, .bl b => .bl b
  | _, _, .int i => .int i
  | _, _, .str x => .str x
  | _, _, .lst h t => .lst (e.seq h) (ThAll.same e t)
  | _, _, .tup h t => .tup (Same.tup e h) (ThAll.same e t)
  | _, _, .dic h => .dic (e _ _ h)
theorem ThAll.same {K : PySem.W.Frag} {H H' : Hp} (e : Same H H') : ∀ {vs : List V} {ds : List PyData}, ThAll K H vs ds → ThAll K H' vs ds
  | _, _, .nil => .nil
  | _, _, .cons h t => .cons (Th.same e h) (ThAll.same e t)
end
theorem ThAll.length {K : PySem.W.Frag} {H : Hp} : ∀ {vs : List V} {ds : List PyData}, ThAll K H vs ds → vs.length = ds.length
  | _, _, .nil => rfl
  | _, _, .cons _ t => by rw [List.length_cons, List.length_cons, ThAll.length t]
theorem ThAll.get {K : PySem.W.Frag} {H : Hp} : ∀ {vs : List V} {ds : List PyData} {i : Nat} {v : V}, ThAll K H vs ds → vs[i]? = some v → ∃ d, ds[i]? = some d ∧ Th K H v d
  | _, _, _, _, .nil, e => by simp at e
  | _, _, 0, _, .cons h _, e => by
    rw [List.getElem?_cons_zero] at e
    cases e
    exact ⟨_, List.getElem?_cons_zero .., h⟩
  | _, _, i + 1, _, .cons _ t, e => by
    rw [List.getElem?_cons_succ] at e
    obtain ⟨d, h1, h2⟩ := ThAll.get t e
    exact ⟨d, by rw [List.getElem?_cons_succ]; exact h1, h2⟩
theorem ThAll.get' {K : PySem.W.Frag} {H : Hp} {vs : List V} {ds : List PyData} {i : Nat} {d : PyData} (t : ThAll K H vs ds) (e : ds[i]? = some d) : ∃ v, vs[i]? = some v ∧ Th K H v d := by
  have hi : i < vs.length := by
    rw [t.length]
    exact (List.getElem?_eq_some_iff.mp e).1
  obtain ⟨d', h1, h2⟩ := t.get (List.getElem?_eq_getElem hi)
  have e2 : d' = d := Option.some.inj (h1.symm.trans e)
  subst e2
  exact ⟨_, List.getElem?_eq_getElem hi, h2⟩
theorem ThAll.ints {K : PySem.W.Frag} {H : Hp} : ∀ ns : List Int, ThAll K H (ns.map V.int) (ns.map PyData.int)
  | [] => .nil
  | n :: r => .cons (.int n) (ThAll.ints r)
/-- the built-in classes that are asked for -/
inductive Cl | int | bool | list | tuple | str | dict
def Cl.name : Cl → String
  | .int => "int" | .bool => "bool" | .list => "list" | .tuple => "tuple" | .str => "str" | .dict => "dict"
def kindD : PyData → String
  | .none => "NoneType" | .bool _ => "bool" | .int _ => "int" | .str _ => "str" | .list _ => "list" | .tuple _ => "tuple" | .dict _ => "dict"
def isD : Cl → PyData → Bool
  | .int, .int _ => true
  | .int, .bool _ => true
  | .bool, .bool _ => true
  | .list, .list _ => true
  | .tuple, .tuple _ => true
  | .str, .str _ => true
  | .dict, .dict _ => true
  | _, _ => false
def isN (c : Cl) (n : String) : Bool := n == c.name || (n == "bool" && c.name == "int")
theorem isN_kit : ∀ (c : Cl), ∀ n ∈ ["NoneType", "bool", "int", "str", "list", "tuple", "dict"], kitB n c.name = some (isN c n) := by
  intro c
  cases c <;> decide +kernel
theorem kindD_mem (d : PyData) : kindD d ∈ ["NoneType", "bool", "int", "str", "list", "tuple", "dict"] := by cases d <;> simp [kindD]
theorem isN_tab : ∀ c : Cl, isN c "NoneType" = isD c .none ∧ isN c "bool" = isD c (.bool true) ∧ isN c "int" = isD c (.int 0) ∧ isN c "str" = isD c (.str "") ∧ isN c "list" = isD c (.list []) ∧ isN c "tuple" = isD c (.tuple []) ∧ isN c "dict" = isD c (.dict []) := by
  intro c
  cases c <;> decide +kernel
theorem isD_N (c : Cl) (d : PyData) : isN c (kindD d) = isD c d := by
  obtain ⟨h1, h2, h3, h4, h5, h6, h7⟩ := isN_tab c
  cases d with
  | none => exact h1
  | bool b => exact h2.trans (by cases c <;> rfl)
  | int i => exact h3.trans (by cases c <;> rfl)
  | str x => exact h4.trans (by cases c <;> rfl)
  | list x => exact h5.trans (by cases c <;> rfl)
  | tuple x => exact h6.trans (by cases c <;> rfl)
  | dict x => exact h7.trans (by cases c <;> rfl)
theorem isD_kit {K : PySem.W.Frag} (c : Cl) (d : PyData) : PySem.W.kitOne K (.type (kindD d)) (.type c.name) = some (isD c d) := by
  rw [← isD_N]
  exact kit_ty (isN_kit c _ (kindD_mem d))
theorem Th.ty {K : PySem.W.Frag} {H : Hp} {v : V} {d : PyData} (h : Th K H v d) : TyX K H v (.type (kindD d)) := by
  cases h with
  | non => exact .base .non
  | bl b => exact .base (.bl b)
  | int i => exact .base (.int i)
  | str x => exact .base (.str x)
  | lst h _ =>
    rcases h with (h | ⟨o, h⟩) | ⟨o, its, n, h, c, _⟩
    · exact .base (.lst h)
    · exact .base (.frz h)
    · exact .kList h c
  | tup h _ =>
    rcases h with (h | ⟨o, h⟩) | ⟨o, its, n, h, c, _⟩
    · exact .base (.tup h)
    · exact .fTuple h
    · exact .kTuple h c
  | dic h => exact .base (.dK h)
/-- isinstance(x, a built-in class) of any thing -/
def rIsD (K : PySem.W.Frag) (c : Cl) : List V → Hp → VK → Prop := fun xs H Q => ∃ x d, xs = [x, .ty c.name] ∧ Th K H x d ∧ Q (.bl (isD c d)) H
theorem call_isD {X : Cx} (c : Cl) : CallR X (.builtin "isinstance") (rIsD X.K c) := fun pins s σ H xs us Q I r ⟨x, d, e, h, q⟩ =>
  call_isi pins s σ H xs us Q I r ⟨x, .ty c.name, .type (kindD d), .type c.name, isD c d, e, .ty _, h.ty, isD_kit c d, q⟩
theorem rIsD_int {K : PySem.W.Frag} {x : V} {H : Hp} {Q : VK} : rIsD K .int [x, .ty "int"] H Q = ∃ d, Th K H x d ∧ Q (.bl (isD .int d)) H := propext ⟨fun ⟨y, d, e, h⟩ => by cases e; exact ⟨d, h⟩, fun ⟨d, h⟩ => ⟨x, d, rfl, h⟩⟩
theorem rIsD_bool {K : PySem.W.Frag} {x : V} {H : Hp} {Q : VK} : rIsD K .bool [x, .ty "bool"] H Q = ∃ d, Th K H x d ∧ Q (.bl (isD .bool d)) H := propext ⟨fun ⟨y, d, e, h⟩ => by cases e; exact ⟨d, h⟩, fun ⟨d, h⟩ => ⟨x, d, rfl, h⟩⟩
theorem rIsD_list {K : PySem.W.Frag} {x : V} {H : Hp} {Q : VK} : rIsD K .list [x, .ty "list"] H Q = ∃ d, Th K H x d ∧ Q (.bl (isD .list d)) H := propext ⟨fun ⟨y, d, e, h⟩ => by cases e; exact ⟨d, h⟩, fun ⟨d, h⟩ => ⟨x, d, rfl, h⟩⟩
theorem rIsD_tuple {K : PySem.W.Frag} {x : V} {H : Hp} {Q : VK} : rIsD K .tuple [x, .ty "tuple"] H Q = ∃ d, Th K H x d ∧ Q (.bl (isD .tuple d)) H := propext ⟨fun ⟨y, d, e, h⟩ => by cases e; exact ⟨d, h⟩, fun ⟨d, h⟩ => ⟨x, d, rfl, h⟩⟩
def wholeD : PyData → Bool
  | .int _ => true
  | _ => false
def numD : PyData → Bool
  | .int i => decide (0 ≤ i) && decide (i ≤ 1000000000)
  | _ => false
theorem wholeD_is (d : PyData) : (isD .int d && !isD .bool d) = wholeD d := by cases d <;> rfl
theorem pe_globI {X : Cx} {x : Str} {i : Int} {t : Tok} {pos : Pos} (hg : Gl X x) (hm : X.mg x = some (.int i t)) (hd : (x == ("__debug__" : Str)) = false := by decide) : PE X (.Name x pos) (tC (.int i)) := pe_glob hg hm ⟨_, rfl⟩ hd
/-- isinstance(x, int) and not isinstance(x, bool) -/
theorem e_whole {K : PySem.W.Frag} {i j : Nat} {σ : L2.St} {H : Hp} {x : V} {d : PyData} {Q : VK} (hx : Th K H x d) (hi : σ[i]? = some (some x)) (hj : σ[j]? = some (some x)) (q : Q (.bl (wholeD d)) H) :
    tAndV (tCB (rIsD K .int) (tCons (tVar i) (tCons (tC (.ty "int")) tNil))) (tNotV (tCB (rIsD K .bool) (tCons (tVar j) (tCons (tC (.ty "bool")) tNil)))) σ H Q := by
  refine ⟨x, hi, x, d, rfl, hx, isD .int d, rfl, ite2 (fun h => ⟨x, hj, x, d, rfl, hx, isD .bool d, rfl, ?_⟩) (fun h => ?_)⟩
  · rw [← wholeD_is, h] at q
    exact q
  · rw [← wholeD_is, Bool.eq_false_iff.mpr h] at q
    exact q
theorem cutV_mem {xs : List V} {lo hi : Option Int} {x : V} (h : x ∈ cutV xs lo hi) : x ∈ xs := List.mem_of_mem_drop (List.mem_of_mem_take h)
theorem cutV_length (xs : List V) (lo hi : Option Int) : (cutV xs lo hi).length ≤ xs.length := by
  unfold cutV
  rw [List.length_take, List.length_drop]
  omega
theorem gCons_c {t : TG} {u : TGs} {v : V} {r : List V} {σ : L2.St} {H : Hp} {Q : L2.St → Hp → Prop} : gCons t u (v :: r) σ H Q = t v σ H fun σ' H' => u r σ' H' Q := propext ⟨fun ⟨a, b, e, h⟩ => by cases e; exact h, fun h => ⟨v, r, rfl, h⟩⟩
theorem gNil_n {σ : L2.St} {H : Hp} {Q : L2.St → Hp → Prop} : gNil [] σ H Q = Q σ H := propext ⟨fun h => h.2, fun h => ⟨rfl, h⟩⟩
theorem five {α : Type} {l : List α} (h : l.length = 5) : ∃ a b c d e, l = [a, b, c, d, e] := by
  match l, h with
  | [a, b, c, d, e], _ => exact ⟨a, b, c, d, e, rfl⟩
/-! ### loops and comprehensions, kept shut -/
def LoopR (J : It) (g : TG) (tb : TS) (D : Ends) (σ : L2.St) (H : Hp) : Prop := ∃ W : Nat → Nat → L2.St → Hp → Prop, (∃ m, W 0 m σ H) ∧ ∀ i m σ H, W i m σ H →
  (J.stop i H ∧ D.nx σ H) ∨ (J.go i H ∧ ∃ N : L2.St → Hp → Prop, (∀ σ' H', N σ' H' → ∃ m', m' < m ∧ W (i + 1) m' σ' H') ∧ ∀ x H', J.yld i H x H' → g x σ H' fun σ2 H2 => tb { D with nx := N, ct := N, bk := D.nx } σ2 H2)
theorem tFor_eq {wi : TI} {g : TG} {tb : TS} {D : Ends} {σ : L2.St} {H : Hp} : tFor wi g tb D σ H = wi σ H fun J H1 => LoopR J g tb D σ H1 := rfl
theorem LoopR.by {J : It} {n : Nat} {G : Hp → Prop} {Y : Nat → Hp → V → Hp → Prop} (w : Walk J n G Y) {g : TG} {tb : TS} {D : Ends} {σ : L2.St} {H : Hp} (Pv : Nat → L2.St → Hp → Prop) (h0 : Pv 0 σ H) (hG : ∀ i σ H, i ≤ n → Pv i σ H → G H)
    (hs : ∀ i x σ H H', i < n → Pv i σ H → Y i H x H' → g x σ H' fun σ2 H2 => tb { D with nx := Pv (i + 1), ct := Pv (i + 1), bk := D.nx } σ2 H2) (hd : ∀ σ H, Pv n σ H → D.nx σ H) : LoopR J g tb D σ H := for_it w Pv h0 hG hs hd
def LcR (J : It) (g : TG) (tt : TT) (te : TE) (vs : List Nat) (σ : L2.St) (D : Addr) (H1 : Hp) (Qd : Hp → Prop) : Prop := ∃ W : Nat → Nat → Hp → Prop, (∃ m, W 0 m (upd H1 D (.lst []))) ∧ ∀ i m H, W i m H →
  (J.stop i H ∧ Qd H) ∨ (J.go i H ∧ ∃ Nx : Hp → Prop, (∀ H', Nx H' → ∃ m', m' < m ∧ W (i + 1) m' H') ∧ ∀ x H', J.yld i H x H' → g x (wipe σ vs) H' fun σ2 H2 => wipe σ2 vs = wipe σ vs ∧ tt σ2 H2 fun b H3 =>
    if b = true then te σ2 H3 fun y H4 => ∃ acc, H4 D = some (.lst acc) ∧ acc.length < sizeLine ∧ Nx (upd H4 D (.lst (acc ++ [y]))) else Nx H3)
theorem tLc_eq {wi : TI} {g : TG} {tt : TT} {te : TE} {vs : List Nat} {σ : L2.St} {H : Hp} {Q : VK} : tLc wi g tt te vs σ H Q = wi σ H fun J H1 => ∀ D, H1 D = none → LcR J g tt te vs σ D H1 (fun H => Q (.ref D) H) := rfl
theorem LcR.by {J : It} {n : Nat} {G : Hp → Prop} {Y : Nat → Hp → V → Hp → Prop} (w : Walk J n G Y) {g : TG} {tt : TT} {te : TE} {vs : List Nat} {σ : L2.St} {H1 : Hp} {D : Addr} {Qd : Hp → Prop} (Pv : Nat → Hp → Prop) (h0 : Pv 0 (upd H1 D (.lst []))) (hG : ∀ i H, i ≤ n → Pv i H → G H)
    (hs : ∀ i x H H', i < n → Pv i H → Y i H x H' → g x (wipe σ vs) H' fun σ2 H2 => wipe σ2 vs = wipe σ vs ∧ tt σ2 H2 fun b H3 =>
      if b = true then te σ2 H3 fun y H4 => ∃ acc, H4 D = some (.lst acc) ∧ acc.length < sizeLine ∧ Pv (i + 1) (upd H4 D (.lst (acc ++ [y]))) else Pv (i + 1) H3) (hd : ∀ H, Pv n H → Qd H) : LcR J g tt te vs σ D H1 Qd := lc_it w Pv h0 hG hs hd
theorem iList_r {K : PySem.W.Frag} {te : TE} {σ : L2.St} {H : Hp} {R : It → Hp → Prop} : iList K te σ H R = te σ H fun x H1 => ∃ a, x = .ref a ∧ (∃ xs, SqL K H1 a xs) ∧ R (Itl K a) H1 := rfl
theorem gTup_r {K : PySem.W.Frag} {n : Nat} {t : TGs} {a : Addr} {σ : L2.St} {H : Hp} {Q : L2.St → Hp → Prop} : gTup K n t (.ref a) σ H Q = ∃ xs, SqT K H a xs ∧ xs.length = n ∧ t xs σ H Q := propext ⟨fun ⟨b, xs, e, h⟩ => by cases e; exact ⟨xs, h⟩, fun ⟨xs, h⟩ => ⟨a, xs, rfl, h⟩⟩
def rEnum (K : PySem.W.Frag) (vs : List V) (H1 : Hp) (R : It → Hp → Prop) : Prop := ∃ a xs, vs = [.ref a] ∧ SqL K H1 a xs ∧ R (Ite K a) H1
theorem iEnum_eq {K : PySem.W.Frag} {ta : TA} {σ : L2.St} {H : Hp} {R : It → Hp → Prop} : iEnum K ta σ H R = ta σ H fun vs H1 => rEnum K vs H1 R := rfl
theorem rEnum_r {K : PySem.W.Frag} {a : Addr} {H : Hp} {R : It → Hp → Prop} : rEnum K [.ref a] H R = ∃ xs, SqL K H a xs ∧ R (Ite K a) H := propext ⟨fun ⟨b, xs, e, h⟩ => by cases e; exact ⟨xs, h⟩, fun ⟨xs, h⟩ => ⟨a, xs, rfl, h⟩⟩
def rZip (K : PySem.W.Frag) (vs : List V) (H1 : Hp) (R : It → Hp → Prop) : Prop := ∃ a b xs ys, vs = [.ref a, .ref b] ∧ SqL K H1 a xs ∧ SqL K H1 b ys ∧ R (Itz K a b) H1
theorem iZip_eq {K : PySem.W.Frag} {ta : TA} {σ : L2.St} {H : Hp} {R : It → Hp → Prop} : iZip K ta σ H R = ta σ H fun vs H1 => rZip K vs H1 R := rfl
theorem rZip_r {K : PySem.W.Frag} {a b : Addr} {H : Hp} {R : It → Hp → Prop} : rZip K [.ref a, .ref b] H R = ∃ xs ys, SqL K H a xs ∧ SqL K H b ys ∧ R (Itz K a b) H := propext ⟨fun ⟨_, _, xs, ys, e, h⟩ => by cases e; exact ⟨xs, ys, h⟩, fun ⟨xs, ys, h⟩ => ⟨a, b, xs, ys, rfl, h⟩⟩
def rRng1 (vs : List V) (H1 : Hp) (R : It → Hp → Prop) : Prop := ∃ j : Int, vs = [.int j] ∧ -(2 ^ 62) ≤ j ∧ j < 2 ^ 62 ∧ R (Itr 0 j.toNat) H1
theorem iRng1_eq {ta : TA} {σ : L2.St} {H : Hp} {R : It → Hp → Prop} : iRng1 ta σ H R = ta σ H fun vs H1 => rRng1 vs H1 R := rfl
theorem rRng1_i {j : Int} {H : Hp} {R : It → Hp → Prop} : rRng1 [.int j] H R = (-(2 ^ 62) ≤ j ∧ j < 2 ^ 62 ∧ R (Itr 0 j.toNat) H) := propext ⟨fun ⟨_, e, h⟩ => by cases e; exact h, fun h => ⟨j, rfl, h⟩⟩
def rRng2 (vs : List V) (H1 : Hp) (R : It → Hp → Prop) : Prop := ∃ i j : Int, vs = [.int i, .int j] ∧ (-(2 ^ 62) ≤ i ∧ i < 2 ^ 62 ∧ -(2 ^ 62) ≤ j ∧ j < 2 ^ 62) ∧ R (Itr i (j - i).toNat) H1
theorem iRng2_eq {ta : TA} {σ : L2.St} {H : Hp} {R : It → Hp → Prop} : iRng2 ta σ H R = ta σ H fun vs H1 => rRng2 vs H1 R := rfl
theorem rRng2_i {i j : Int} {H : Hp} {R : It → Hp → Prop} : rRng2 [.int i, .int j] H R = ((-(2 ^ 62) ≤ i ∧ i < 2 ^ 62 ∧ -(2 ^ 62) ≤ j ∧ j < 2 ^ 62) ∧ R (Itr i (j - i).toNat) H) := propext ⟨fun ⟨_, _, e, h⟩ => by cases e; exact h, fun h => ⟨i, j, rfl, h⟩⟩
theorem rSlL_r {K : PySem.W.Frag} {a : Addr} {lo hi : Option Int} {H : Hp} {Q : VK} : rSlL K (.ref a) lo hi H Q = ∃ xs, SqL K H a xs ∧ ∀ p, H p = none → Q (.ref p) (upd H p (.lst (cutV xs lo hi))) := propext ⟨fun ⟨_, xs, e, h⟩ => by cases e; exact ⟨xs, h⟩, fun ⟨xs, h⟩ => ⟨a, xs, rfl, h⟩⟩
theorem rCat_r {l b : Addr} {H : Hp} {Q : VK} : rCat (.ref l) (.ref b) H Q = ∃ xs zs, H l = some (.lst xs) ∧ H b = some (.lst zs) ∧ xs.length + zs.length ≤ sizeLine ∧ ∀ p, H p = none → Q (.ref p) (upd H p (.lst (xs ++ zs))) := propext ⟨fun ⟨_, _, xs, zs, e1, e2, h⟩ => by cases e1; cases e2; exact ⟨xs, zs, h⟩, fun ⟨xs, zs, h⟩ => ⟨l, b, xs, zs, rfl, rfl, h⟩⟩
end Bk

namespace Bk
open PySem PySem.Spec PyProof.Rows L2
/-! ### a comprehension without tests, by what each turn gives -/
theorem LcR.map {J : It} {n : Nat} {G : Hp → Prop} {Y : Nat → Hp → V → Hp → Prop} (w : Walk J n G Y) {g : TG} {te : TE} {vs : List Nat} {σ : L2.St} {H1 : Hp} {D : Addr} {Qd : Hp → Prop} (ys : List V) (hD : H1 D = none) (hn : ys.length = n) (hz : n ≤ 100000)
    (hG : ∀ H, Same H1 H → G H) (hY : ∀ i H x H', Y i H x H' → Same H H')
    (hs : ∀ i x y H H', i < n → Same H1 H' → Y i H x H' → ys[i]? = some y → ∀ R : V → Hp → Prop, (∀ H4, Same H' H4 → R y H4) → g x (wipe σ vs) H' fun σ2 H2 => wipe σ2 vs = wipe σ vs ∧ te σ2 H2 R)
    (hd : ∀ H, Same H1 H → H D = some (.lst ys) → Qd H) : LcR J g tYes te vs σ D H1 Qd := by
  refine LcR.by w (fun i H => Same H1 H ∧ H D = some (.lst (ys.take i))) ⟨same_upd hD, by rw [upd_same]; rfl⟩ (fun i H _ h => hG H h.1) (fun i x H H' hi h y => ?_) (fun H h => hd H h.1 ?_)
  · have s := hY _ _ _ _ y
    have e : ys[i]? = some (ys[i]'(by omega)) := List.getElem?_eq_getElem (by omega)
    refine hs i x _ H H' hi (h.1.trans s) y e _ fun H4 s4 => ?_
    have e4 := s4 _ _ (s _ _ h.2)
    refine ⟨_, e4, ?_, same_mut ((h.1.trans s).trans s4) hD, ?_⟩
    · rw [List.length_take]
      exact sz100l (by omega)
    · rw [upd_same, List.take_add_one, e]
      rfl
  · rw [← hn, List.take_length] at h
    exact h.2
theorem yat_same {xs : List V} {i : Nat} {H H' : Hp} {x : V} (y : YAt xs i H x H') : Same H H' := by
  rw [y.1]
  exact Same.refl H
theorem yfn_same {f : Nat → V} {i : Nat} {H H' : Hp} {x : V} (y : YFn f i H x H') : Same H H' := by
  rw [y.1]
  exact Same.refl H
theorem ypair_same {xs ys : Nat → Option V} {i : Nat} {H H' : Hp} {x : V} (y : YPair xs ys i H x H') : Same H H' := by
  obtain ⟨T, a, b, _, hT, e, _⟩ := y
  rw [e]
  exact same_upd hT
theorem rAll_r {K : PySem.W.Frag} {p : Addr} {H : Hp} {Q : VK} : rAll K [.ref p] H Q = ∃ bs : List Bool, SqL K H p (bs.map V.bl) ∧ Q (.bl (bs.all id)) H := propext ⟨fun ⟨a, bs, e, h⟩ => by cases e; exact ⟨bs, h⟩, fun ⟨bs, h⟩ => ⟨p, bs, rfl, h⟩⟩
theorem rSum_r {K : PySem.W.Frag} {p : Addr} {H : Hp} {Q : VK} : rSum K [.ref p] H Q = ∃ ns : List Int, SqL K H p (ns.map V.int) ∧ Q (.int ns.sum) H := propext ⟨fun ⟨a, bs, e, h⟩ => by cases e; exact ⟨bs, h⟩, fun ⟨bs, h⟩ => ⟨p, bs, rfl, h⟩⟩
/-! ### what a bakery is, as data -/
structure Day where
  want : Int
  loaf : Int
  keep : Int
  fine : Option Int
structure Good where
  days : List Day
  life : Option Int
structure Bak where
  lights : List Int
  bound : Option Int
  goods : List Good
def optD : Option Int → PyData
  | none => .none
  | some i => .int i
def dayD (d : Day) : PyData := .tuple [.int d.want, .int d.loaf, .int d.keep, optD d.fine]
def goodD (g : Good) : PyData := .tuple [.list (g.days.map dayD), optD g.life]
def bakD (b : Bak) : PyData := .tuple [.list (b.lights.map PyData.int), optD b.bound, .list (b.goods.map goodD)]
def tupB (n : Nat) : PyData → Bool
  | .tuple ds => decide (ds.length = n)
  | _ => false
def listB (lo hi : Nat) : PyData → Bool
  | .list ds => decide (lo ≤ ds.length) && decide (ds.length ≤ hi)
  | _ => false
def lightsB : PyData → Bool
  | .list ds => listB 1 40 (.list ds) && ds.all numD
  | _ => false
def boundB : PyData → Bool
  | .none => true
  | .int i => numD (.int i) && decide (1 ≤ i)
  | _ => false
def lifeB : PyData → Bool
  | .none => true
  | .int i => decide (0 ≤ i) && decide (i ≤ 40)
  | _ => false
def noneB : PyData → Bool
  | .none => true
  | _ => false
def dayB : PyData → Bool
  | .tuple [a, b, c, f] => (numD a && numD b && numD c) && (noneB f || numD f)
  | _ => false
def goodFormB (n : Nat) : PyData → Bool
  | .tuple [ds, l] => listB n n ds && lifeB l
  | _ => false
def bakFormB : PyData → Bool
  | .tuple [l, b, g] => lightsB l && (boundB b && listB 1 2 g)
  | _ => false
/-- a good of n days -/
def goodB (n : Nat) : PyData → Bool
  | .tuple [.list ds, l] => decide (ds.length = n) && lifeB l && ds.all dayB
  | _ => false
def bakB : PyData → Bool
  | .tuple [.list ls, b, .list gs] => lightsB (.list ls) && boundB b && listB 1 2 (.list gs) && gs.all (goodB ls.length)
  | _ => false
theorem Th.isNon {K : PySem.W.Frag} {H : Hp} {x : V} {d : PyData} (h : Th K H x d) : decide (x = V.non) = noneB d := by cases h <;> rfl
theorem qb {Q : VK} {H : Hp} {a b : Bool} (e : a = b) (q : Q (.bl b) H) : Q (.bl a) H := by
  rw [e]
  exact q
theorem two {α : Type} {l : List α} (h : l.length = 2) : ∃ a b, l = [a, b] := by
  match l, h with
  | [a, b], _ => exact ⟨a, b, rfl⟩
theorem three {α : Type} {l : List α} (h : l.length = 3) : ∃ a b c, l = [a, b, c] := by
  match l, h with
  | [a, b, c], _ => exact ⟨a, b, c, rfl⟩
theorem four {α : Type} {l : List α} (h : l.length = 4) : ∃ a b c d, l = [a, b, c, d] := by
  match l, h with
  | [a, b, c, d], _ => exact ⟨a, b, c, d, rfl⟩
theorem goodB_inv {n : Nat} {d : PyData} (h : goodB n d = true) : ∃ ds l, d = .tuple [.list ds, l] ∧ ds.length = n ∧ lifeB l = true ∧ ds.all dayB = true := by
  unfold goodB at h
  split at h
  · rename_i ds l
    rw [Bool.and_eq_true, Bool.and_eq_true] at h
    exact ⟨ds, l, rfl, of_decide_eq_true h.1.1, h.1.2, h.2⟩
  · cases h
theorem bakB_inv {d : PyData} (h : bakB d = true) : ∃ ls b gs, d = .tuple [.list ls, b, .list gs] ∧ lightsB (.list ls) = true ∧ boundB b = true ∧ listB 1 2 (.list gs) = true ∧ gs.all (goodB ls.length) = true := by
  unfold bakB at h
  split at h
  · rename_i ls b gs
    rw [Bool.and_eq_true, Bool.and_eq_true, Bool.and_eq_true] at h
    exact ⟨ls, b, gs, rfl, h.1.1.1, h.1.1.2, h.1.2, h.2⟩
  · cases h
/-- a bakery, part by part -/
theorem Th.bak {K : PySem.W.Frag} {H : Hp} {x : V} {b : Bak} (h : Th K H x (bakD b)) : ∃ (a l : Addr) (v : V) (g : Addr) (xl xg : List V), x = .ref a ∧ SqT K H a [.ref l, v, .ref g] ∧ SqL K H l xl ∧ ThAll K H xl (b.lights.map PyData.int) ∧ Th K H v (optD b.bound) ∧ SqL K H g xg ∧ ThAll K H xg (b.goods.map goodD) := by
  cases h with
  | tup ht hta =>
  cases hta with
  | cons t1 hta => cases hta with
  | cons t2 hta => cases hta with
  | cons t3 hta =>
  cases hta
  cases t1 with
  | lst h1 h2 =>
  cases t3 with
  | lst h3 h4 =>
  exact ⟨_, _, _, _, _, _, rfl, ht, h1, h2, t2, h3, h4⟩
def optV : Option Int → V
  | none => .non
  | some i => .int i
theorem Th.opt {K : PySem.W.Frag} {H : Hp} {v : V} {o : Option Int} (h : Th K H v (optD o)) : v = optV o := by
  cases o with
  | none =>
    cases h
    rfl
  | some i =>
    cases h
    rfl
theorem Th.optV {K : PySem.W.Frag} {H : Hp} (o : Option Int) : Th K H (Bk.optV o) (optD o) := by
  cases o with
  | none => exact .non
  | some i => exact .int i
theorem Th.day {K : PySem.W.Frag} {H : Hp} {x : V} {d : Day} (h : Th K H x (dayD d)) : ∃ t, x = .ref t ∧ SqT K H t [.int d.want, .int d.loaf, .int d.keep, Bk.optV d.fine] := by
  cases h with
  | tup ht hta =>
  cases hta with
  | cons t1 hta => cases hta with
  | cons t2 hta => cases hta with
  | cons t3 hta => cases hta with
  | cons t4 hta =>
  cases hta
  cases t1
  cases t2
  cases t3
  rw [t4.opt] at ht
  exact ⟨_, rfl, ht⟩
theorem Th.good {K : PySem.W.Frag} {H : Hp} {x : V} {g : Good} (h : Th K H x (goodD g)) : ∃ t a xs, x = .ref t ∧ SqT K H t [.ref a, Bk.optV g.life] ∧ SqL K H a xs ∧ ThAll K H xs (g.days.map dayD) := by
  cases h with
  | tup ht hta =>
  cases hta with
  | cons t1 hta => cases hta with
  | cons t2 hta =>
  cases hta
  cases t1 with
  | lst h1 h2 =>
  rw [t2.opt] at ht
  exact ⟨_, _, _, rfl, ht, h1, h2⟩
theorem ThAll.drop {K : PySem.W.Frag} {H : Hp} : ∀ {vs : List V} {ds : List PyData} (n : Nat), ThAll K H vs ds → ThAll K H (vs.drop n) (ds.drop n)
  | _, _, 0, h => h
  | _, _, _ + 1, .nil => .nil
  | _, _, n + 1, .cons _ t => ThAll.drop n t
theorem ThAll.take {K : PySem.W.Frag} {H : Hp} : ∀ {vs : List V} {ds : List PyData} (n : Nat), ThAll K H vs ds → ThAll K H (vs.take n) (ds.take n)
  | _, _, 0, _ => .nil
  | _, _, _ + 1, .nil => .nil
  | _, _, n + 1, .cons h t => .cons h (ThAll.take n t)
theorem ThAll.append {K : PySem.W.Frag} {H : Hp} : ∀ {vs ws : List V} {ds es : List PyData}, ThAll K H vs ds → ThAll K H ws es → ThAll K H (vs ++ ws) (ds ++ es)
  | _, _, _, _, .nil, h => h
  | _, _, _, _, .cons h t, h2 => .cons h (ThAll.append t h2)
theorem cutV_nat (xs : List V) (i j : Nat) : cutV xs (some (i : Int)) (some (j : Int)) = (xs.drop i).take (j - i) := by
  unfold cutV
  rw [HT.sIx_nat, HT.sIx_nat]
  by_cases hi : i ≤ xs.length
  · rw [Nat.min_eq_left hi]
    by_cases hj : j ≤ xs.length
    · rw [Nat.min_eq_left hj]
    · rw [Nat.min_eq_right (by omega), List.take_of_length_le (by rw [List.length_drop]; omega), List.take_of_length_le (by rw [List.length_drop]; omega)]
  · rw [show min i xs.length = xs.length by omega, List.drop_of_length_le (Nat.le_refl _), List.drop_of_length_le (show xs.length ≤ i by omega), List.take_nil, List.take_nil]
/-! ### the price of a loaf -/
def sumO : List (Option Int) → Option Int
  | [] => some 0
  | none :: _ => none
  | some x :: r => (sumO r).map (x + ·)
def keepsL (ds : List Day) (i j : Nat) : Int := (((ds.drop i).take (j - i)).map Day.keep).sum
def finesL (ds : List Day) (i j : Nat) : Option Int := sumO (((ds.drop i).take (j - i)).map Day.fine)
/-- a loaf of a good, baked on day j, given for day k -/
def loafP (g : Good) (j k : Nat) : Option Int := match g.days[j]? with
  | none => none
  | some d => if k < j then (finesL g.days k j).map (d.loaf + ·) else match g.life with
    | none => some (d.loaf + keepsL g.days j k)
    | some l => if l < (k : Int) - (j : Int) then none else some (d.loaf + keepsL g.days j k)
theorem sumO_none : ∀ {l : List (Option Int)}, inV .non (l.map optV) = true → sumO l = none
  | [], h => by cases h
  | none :: _, _ => rfl
  | some x :: r, h => by
    have h2 : inV .non (r.map optV) = true := by
      have h1 : (eqV (.int x) .non || inV .non (r.map optV)) = true := h
      simpa [eqV] using h1
    show (sumO r).map (x + ·) = none
    rw [sumO_none h2]
    rfl
theorem sumO_some : ∀ {l : List (Option Int)}, inV .non (l.map optV) = false → ∃ ns : List Int, l.map optV = ns.map V.int ∧ sumO l = some ns.sum
  | [], _ => ⟨[], rfl, rfl⟩
  | none :: r, h => by
    have h1 : (eqV .non .non || inV .non (r.map optV)) = false := h
    simp [eqV] at h1
  | some x :: r, h => by
    have h2 : inV .non (r.map optV) = false := by
      have h1 : (eqV (.int x) .non || inV .non (r.map optV)) = false := h
      simpa [eqV] using h1
    obtain ⟨ns, e1, e2⟩ := sumO_some h2
    refine ⟨x :: ns, ?_, ?_⟩
    · show V.int x :: r.map optV = V.int x :: ns.map V.int
      rw [e1]
    · show (sumO r).map (x + ·) = some (x :: ns).sum
      rw [e2, List.sum_cons]
      rfl
theorem rIn_r {K : PySem.W.Frag} {x : V} {p : Addr} {H : Hp} {Q : VK} : rIn K false x (.ref p) H Q = ∃ xs, (SqL K H p xs ∨ SqT K H p xs) ∧ flatV x = true ∧ xs.all flatV = true ∧ Q (.bl (inV x xs)) H :=
  propext ⟨fun ⟨_, xs, e, h⟩ => by cases e; exact ⟨xs, h⟩, fun ⟨xs, h⟩ => ⟨p, xs, rfl, h⟩⟩
theorem flat_opts (l : List (Option Int)) : (l.map optV).all flatV = true := by
  rw [List.all_eq_true]
  intro x hx
  obtain ⟨o, _, rfl⟩ := List.mem_map.mp hx
  cases o <;> rfl
theorem bakB_len {b : Bak} {g : Good} {i : Nat} (h : bakB (bakD b) = true) (hg : b.goods[i]? = some g) : g.days.length = b.lights.length ∧ b.lights.length ≤ 40 := by
  obtain ⟨ls, bo, gs, e, h1, h2, h3, h4⟩ := bakB_inv h
  unfold bakD at e
  injection e with e
  injection e with e1 e
  injection e with e2 e
  injection e with e3 e
  injection e1 with e1
  injection e3 with e3
  subst e1 e3
  have h5 := List.all_eq_true.mp h4 (goodD g) (List.mem_map.mpr ⟨g, List.mem_of_getElem? hg, rfl⟩)
  obtain ⟨ds, l, e4, e5, _⟩ := goodB_inv h5
  unfold goodD at e4
  injection e4 with e4
  injection e4 with e4 _
  injection e4 with e4
  subst e4
  rw [List.length_map, List.length_map] at e5
  have h6 := (Bool.and_eq_true_iff.mp (Bool.and_eq_true_iff.mp h1).1).2
  have h7 := of_decide_eq_true h6
  rw [List.length_map] at h7
  exact ⟨e5, h7⟩
end Bk

namespace Bk
open PySem PySem.Spec PyProof.Rows L2
/-! ### xs[a:b:c] of a list: some of its items -/
theorem vals_pick {xs : List V} {us : List Value} (r : Vals xs us) : ∀ is : List Nat, Vals (is.filterMap (xs[·]?)) (is.filterMap (us[·]?))
  | [] => .nil
  | i :: is => by
    have ih := vals_pick r is
    cases e : xs[i]? with
    | none =>
      rw [List.filterMap_cons_none e, List.filterMap_cons_none (r.none_of e)]
      exact ih
    | some x =>
      obtain ⟨u, e2, r2⟩ := r.get e
      rw [List.filterMap_cons_some e, List.filterMap_cons_some e2]
      exact .cons r2 ih
/-- the items of xs[l:u:st] -/
def stepV (xs : List V) (l u st : Option Int) : List V := (sliceRange (sliceBounds l u st xs.length).1 (sliceBounds l u st xs.length).2.1 (sliceBounds l u st xs.length).2.2).filterMap (xs[·]?)
theorem pick_length {α : Type} {xs : List α} : ∀ {is : List Nat}, (∀ i ∈ is, i < xs.length) → (is.filterMap (xs[·]?)).length = is.length
  | [], _ => rfl
  | i :: is, h => by
    rw [List.filterMap_cons_some (List.getElem?_eq_getElem (h i List.mem_cons_self)), List.length_cons, List.length_cons, pick_length fun j hj => h j (List.mem_cons_of_mem _ hj)]
theorem stepV_mem {xs : List V} {l u st : Option Int} {y : V} (h : y ∈ stepV xs l u st) : y ∈ xs := by
  obtain ⟨i, _, e⟩ := List.mem_filterMap.mp h
  exact List.mem_of_getElem? e
/-- xs[:0:-1] has one less -/
theorem stepV_back (xs : List V) : (stepV xs none (some 0) (some (-1))).length = xs.length - 1 := by
  unfold stepV
  by_cases h : xs.length = 0
  · have e : xs = [] := List.length_eq_zero_iff.mp h
    subst e
    rfl
  · have eb : sliceBounds none (some 0) (some (-1)) xs.length = ((xs.length : Int) - 1, 0, -1) := by
      simp only [sliceBounds, Option.getD_some, show ¬ ((-1 : Int) > 0) by decide, if_false, show ¬ ((0 : Int) < 0) by decide]
      rw [show max (-1 : Int) (min 0 ((xs.length : Int) - 1)) = 0 by omega]
    rw [eb]
    have er : (sliceRange ((xs.length : Int) - 1) 0 (-1)) = (List.range (xs.length - 1)).map fun (k : Nat) => ((xs.length : Int) - 1 + -1 * (k : Int)).toNat := by
      unfold sliceRange
      simp only [show ¬ ((-1 : Int) > 0) by decide, if_false]
      congr 2
      by_cases h2 : (xs.length : Int) - 1 > 0
      · rw [if_pos h2, show (- -1 : Int) = 1 by decide, Int.ediv_one]
        omega
      · rw [if_neg h2]
        omega
    rw [er, pick_length, List.length_map, List.length_range]
    intro i hi
    obtain ⟨k, hk, rfl⟩ := List.mem_map.mp hi
    have := List.mem_range.mp hk
    omega
def tStep (K : PySem.W.Frag) (te : TE) (tl th ts : TO) : TE := fun σ H Q => te σ H fun x H1 => tl σ H1 fun l H2 => th σ H2 fun u H3 => ts σ H3 fun st H4 => ∃ a xs, x = .ref a ∧ SqL K H4 a xs ∧ st ≠ some 0 ∧
  ∀ p, H4 p = none → Q (.ref p) (upd H4 p (.lst (stepV xs l u st)))
theorem pe_step {X : Cx} {e : Expr} {lo hi st : Option Expr} {te : TE} {tl th ts : TO} {p3 pos : Pos} (he : PE X e te) (hl : PO X lo tl) (hu : PO X hi th) (hst : PO X st ts)
    (hsub : ∀ a i, subscripted (.Slice lo hi st p3) false a i = operate [a, i] (getItem a i) := by intro _ _; with_unfolding_all rfl) : PE X (.Subscript e (.Slice lo hi st p3) pos) (tStep X.K te tl th ts) := by
  refine ⟨fun pins s σ H Q I h => ?_⟩
  refine Subscript_ (thn (he.run pins s σ H _ I h) fun v s1 ⟨x, H1, I1, r1, q1⟩ => ?_)
  refine wpAny_Slice (thn (hl.run pins s1 σ H1 _ I1 q1) fun vl s2 ⟨l, H2, I2, pl, q2⟩ => ?_)
  refine thn (hu.run pins s2 σ H2 _ I2 q2) fun vu s3 ⟨u, H3, I3, pu, q3⟩ => ?_
  refine thn (hst.run pins s3 σ H3 _ I3 q3) fun vs s4 ⟨o, H4, I4, ps, q4⟩ => ?_
  obtain ⟨a, xs, ex, hx, h0, q⟩ := q4
  subst ex
  cases r1
  have I5 : Inv X pins σ H4 { s4 with heap := s4.heap.push { cls := .type "slice", data := .fields #[vl, vu, vs] } } := I4.kept (t' := s4.toks) fun b ob q => Heap.get?_push_of_some _ q
  obtain ⟨its, r, ht, hz⟩ := I5.list hx
  have hlen := r.length
  show wpAny (model X.prog X.w) X.A (subscriptTail e (.Slice lo hi st p3) (.ref a) (.ref s4.heap.objs.size)) (EP X pins σ Q) X.xe { s4 with heap := s4.heap.push { cls := .type "slice", data := .fields #[vl, vu, vs] } }
  refine tail_any (ops := [.ref a, .ref s4.heap.objs.size]) ht.isList.typeIs (PySem.slot_list_getitem.lookup) ?_ (hsub _ _)
  refine wpAny_getItem_list_slice ht.isList (Heap.IsSliceOf.new _ vl vu vs) pl pu ps h0 ?_ (by rw [List.size_toArray]; omega)
  have hpk : slicePick its.toArray l u o = ((sliceRange (sliceBounds l u o xs.length).1 (sliceBounds l u o xs.length).2.1 (sliceBounds l u o xs.length).2.2).filterMap (its[·]?)).toArray := by
    unfold slicePick
    rw [List.size_toArray, ← hlen]
    simp
  have rp : Vals (stepV xs l u o) _ := vals_pick r (sliceRange (sliceBounds l u o xs.length).1 (sliceBounds l u o xs.length).2.1 (sliceBounds l u o xs.length).2.2)
  have hle := slicePick_size_le its.toArray l u o
  rw [hpk] at hle ⊢
  rw [List.size_toArray, List.size_toArray] at hle
  have hl2 : (stepV xs l u o).length ≤ xs.length := by
    rw [rp.length]
    omega
  refine ⟨.ref _, _, I5.laid (t' := s4.toks) (o := .lst (stepV xs l u o)) (fun b ob q => Heap.get?_push_of_some _ q) (Nat.le_refl _) ?_, rfl, q _ (I5.hok.fresh (Nat.le_refl _))⟩
  exact ⟨by omega, _, 0, rp, Heap.get?_push_size _ rfl⟩
theorem tStep_r {K : PySem.W.Frag} {te : TE} {tl th ts : TO} {σ : L2.St} {H : Hp} {Q : VK} : tStep K te tl th ts σ H Q = te σ H fun x H1 => tl σ H1 fun l H2 => th σ H2 fun u H3 => ts σ H3 fun st H4 => ∃ a xs, x = .ref a ∧ SqL K H4 a xs ∧ st ≠ some 0 ∧
  ∀ p, H4 p = none → Q (.ref p) (upd H4 p (.lst (stepV xs l u st))) := rfl
/-! ### data in objects that are tracked as they are -/
mutual
inductive Tk (H : Hp) : V → PyData → Prop
  | non : Tk H .non .none
  | bl (b : Bool) : Tk H (.bl b) (.bool b)
  | int (i : Int) : Tk H (.int i) (.int i)
  | str (x : Str) : Tk H (.str x) (.str x)
  | lst {a : Addr} {xs : List V} {ds : List PyData} : H a = some (.lst xs) → TkAll H xs ds → Tk H (.ref a) (.list ds)
  | tup {a : Addr} {xs : List V} {ds : List PyData} : H a = some (.tup xs) → TkAll H xs ds → Tk H (.ref a) (.tuple ds)
  | dic {a : Addr} : H a = some (.dK []) → Tk H (.ref a) (.dict [])
inductive TkAll (H : Hp) : List V → List PyData → Prop
  | nil : TkAll H [] []
  | cons {v : V} {vs : List V} {d : PyData} {ds : List PyData} : Tk H v d → TkAll H vs ds → TkAll H (v :: vs) (d :: ds)
end
mutual
theorem Tk.th {K : PySem.W.Frag} {H : Hp} : ∀ {v : V} {d : PyData}, Tk H v d → Th K H v d
  | _, _, .non => .non
  | _, _, .bl b => .bl b
  | _, _, .int i => .int i
  | _, _, .str x => .str x
  | _, _, .lst h t => .lst (SqL.of h) (TkAll.th t)
  | _, _, .tup h t => .tup (SqT.of h) (TkAll.th t)
  | _, _, .dic h => .dic h
theorem TkAll.th {K : PySem.W.Frag} {H : Hp} : ∀ {vs : List V} {ds : List PyData}, TkAll H vs ds → ThAll K H vs ds
  | _, _, .nil => .nil
  | _, _, .cons h t => .cons (Tk.th h) (TkAll.th t)
end
mutual
theorem Tk.same {H H' : Hp} (e : Same H H') : ∀ {v : V} {d : PyData}, Tk H v d → Tk H' v d
  | _, _, .non => .non
  | _, _, .bl b => .bl b
  | _, _, .int i => .int i
  | _, _, .str x => .str x
  | _, _, .lst h t => .lst (e _ _ h) (TkAll.same e t)
  | _, _, .tup h t => .tup (e _ _ h) (TkAll.same e t)
  | _, _, .dic h => .dic (e _ _ h)
theorem TkAll.same {H H' : Hp} (e : Same H H') : ∀ {vs : List V} {ds : List PyData}, TkAll H vs ds → TkAll H' vs ds
  | _, _, .nil => .nil
  | _, _, .cons h t => .cons (Tk.same e h) (TkAll.same e t)
end
theorem TkAll.append {H : Hp} : ∀ {vs ws : List V} {ds es : List PyData}, TkAll H vs ds → TkAll H ws es → TkAll H (vs ++ ws) (ds ++ es)
  | _, _, _, _, .nil, h => h
  | _, _, _, _, .cons h t, h2 => .cons h (TkAll.append t h2)
theorem TkAll.take {H : Hp} : ∀ {vs : List V} {ds : List PyData} (n : Nat), TkAll H vs ds → TkAll H (vs.take n) (ds.take n)
  | _, _, 0, _ => .nil
  | _, _, _ + 1, .nil => .nil
  | _, _, n + 1, .cons h t => .cons h (TkAll.take n t)
theorem TkAll.rep {H : Hp} {vs : List V} {ds : List PyData} (h : TkAll H vs ds) : ∀ n : Nat, TkAll H (List.replicate n vs).flatten (List.replicate n ds).flatten
  | 0 => .nil
  | n + 1 => by
    rw [List.replicate_succ, List.replicate_succ, List.flatten_cons, List.flatten_cons]
    exact h.append (TkAll.rep h n)
theorem TkAll.length {H : Hp} : ∀ {vs : List V} {ds : List PyData}, TkAll H vs ds → vs.length = ds.length
  | _, _, .nil => rfl
  | _, _, .cons _ t => by rw [List.length_cons, List.length_cons, TkAll.length t]
theorem TkAll.get {H : Hp} : ∀ {vs : List V} {ds : List PyData} {i : Nat} {v : V}, TkAll H vs ds → vs[i]? = some v → ∃ d, ds[i]? = some d ∧ Tk H v d
  | _, _, _, _, .nil, e => by simp at e
  | _, _, 0, _, .cons h _, e => by
    rw [List.getElem?_cons_zero] at e
    cases e
    exact ⟨_, List.getElem?_cons_zero .., h⟩
  | _, _, i + 1, _, .cons _ t, e => by
    rw [List.getElem?_cons_succ] at e
    obtain ⟨d, h1, h2⟩ := TkAll.get t e
    exact ⟨d, by rw [List.getElem?_cons_succ]; exact h1, h2⟩
theorem TkAll.ints {H : Hp} : ∀ ns : List Int, TkAll H (ns.map V.int) (ns.map PyData.int)
  | [] => .nil
  | n :: r => .cons (.int n) (TkAll.ints r)
theorem Tk.optV {H : Hp} (o : Option Int) : Tk H (Bk.optV o) (optD o) := by
  cases o with
  | none => exact .non
  | some i => exact .int i
/-! ### what is new -/
/-- the part of H' that H doesn't know -/
def newOf (H H' : Hp) : Hp := fun b => if H b = none then H' b else none
theorem newOf_same (H H' : Hp) : Same (newOf H H') H' := fun b o e => by
  unfold newOf at e
  split at e
  · exact e
  · cases e
theorem newOf_at {H H' : Hp} {b : Addr} {o : HO} (h : H b = none) (e : H' b = some o) : newOf H H' b = some o := by
  unfold newOf
  rw [if_pos h]
  exact e
theorem newOf_old {H H' : Hp} {b : Addr} {o : HO} (h : H b = some o) : newOf H H' b = none := by
  unfold newOf
  rw [if_neg (by rw [h]; exact fun z => nomatch z)]
theorem newOf_mono {H H1 H2 : Hp} (s : Same H1 H2) : Same (newOf H H1) (newOf H H2) := fun b o e => by
  unfold newOf at e ⊢
  split at e
  · rename_i h
    rw [if_pos h]
    exact s b o e
  · cases e
theorem newOf_left {H H1 H2 : Hp} (s : Same H H1) : Same (newOf H1 H2) (newOf H H2) := fun b o e => by
  unfold newOf at e ⊢
  split at e
  · rename_i h
    rw [if_pos (s.free h)]
    exact e
  · cases e
/-- the new part, without two places -/
def newBut (H : Hp) (l m : Addr) (H' : Hp) : Hp := fun b => if b = l ∨ b = m then none else newOf H H' b
theorem newBut_mono {H H1 H2 : Hp} {l m : Addr} (s : ∀ b o, b ≠ l → b ≠ m → H1 b = some o → H2 b = some o) : Same (newBut H l m H1) (newBut H l m H2) := fun b o e => by
  unfold newBut at e ⊢
  split at e
  · cases e
  · rename_i h
    rw [if_neg h]
    have h2 := newOf_same _ _ b o e
    unfold newOf at e ⊢
    split at e
    · rename_i h3
      rw [if_pos h3]
      exact s b o (fun z => h (.inl z)) (fun z => h (.inr z)) h2
    · cases e
theorem newBut_same (H : Hp) (l m : Addr) (H' : Hp) : Same (newBut H l m H') (newOf H H') := fun b o e => by
  unfold newBut at e
  split at e
  · cases e
  · exact e
theorem newBut_at {H H' : Hp} {l m b : Addr} {o : HO} (h : H b = none) (h1 : b ≠ l) (h2 : b ≠ m) (e : H' b = some o) : newBut H l m H' b = some o := by
  unfold newBut
  rw [if_neg (fun z => z.elim h1 h2)]
  exact newOf_at h e
theorem gUnl_r {K : PySem.W.Frag} {n : Nat} {t : TGs} {a : Addr} {σ : L2.St} {H : Hp} {Q : L2.St → Hp → Prop} : gUnl K n t (.ref a) σ H Q = ∃ xs, SqL K H a xs ∧ xs.length = n ∧ t xs σ H Q := propext ⟨fun ⟨b, xs, e, h⟩ => by cases e; exact ⟨xs, h⟩, fun ⟨xs, h⟩ => ⟨a, xs, rfl, h⟩⟩
def rInt1 : List V → Hp → VK → Prop := fun xs H Q => (∃ i, xs = [.int i] ∧ Q (.int i) H) ∨ ∃ k, xs = [.bl k] ∧ Q (.int (if k then 1 else 0)) H
theorem call_in1 {X : Cx} : CallR X (.type "int") rInt1 := call_int1
theorem rInt1_b {k : Bool} {H : Hp} {Q : VK} : rInt1 [.bl k] H Q = Q (.int (if k then 1 else 0)) H := by
  refine propext ⟨fun h => ?_, fun h => .inr ⟨k, rfl, h⟩⟩
  rcases h with ⟨i, e, _⟩ | ⟨j, e, q⟩
  · cases e
  · cases e
    exact q
theorem rInt1_i {i : Int} {H : Hp} {Q : VK} : rInt1 [.int i] H Q = Q (.int i) H := by
  refine propext ⟨fun h => ?_, fun h => .inl ⟨i, rfl, h⟩⟩
  rcases h with ⟨j, e, q⟩ | ⟨j, e, _⟩
  · cases e
    exact q
  · cases e
theorem rRep_r {l : Addr} {k : Int} {H : Hp} {Q : VK} : rRep (.ref l) (.int k) H Q = ∃ xs, H l = some (.lst xs) ∧ -(2 ^ 63) ≤ k ∧ k < 2 ^ 63 ∧ xs.length * k.toNat ≤ sizeLine ∧ ∀ p, H p = none → Q (.ref p) (upd H p (.lst (List.replicate k.toNat xs).flatten)) :=
  propext ⟨fun ⟨_, _, xs, e1, e2, h⟩ => by cases e1; cases e2; exact ⟨xs, h⟩, fun ⟨xs, h⟩ => ⟨l, k, xs, rfl, rfl, h⟩⟩
theorem seven {α : Type} {l : List α} (h : l.length = 7) : ∃ a b c d e f g, l = [a, b, c, d, e, f, g] := by
  match l, h with
  | [a, b, c, d, e, f, g], _ => exact ⟨a, b, c, d, e, f, g, rfl⟩
def nDays (u m : Nat) : Nat := max 2 (min u m) - 1
theorem newOf_to {H Hb H5 HF : Hp} (s : Same H Hb) (k : ∀ b o, Hb b = none → H5 b = some o → HF b = some o) : Same (newOf Hb H5) (newOf H HF) := fun b o e => by
  unfold newOf at e
  split at e
  · rename_i h
    exact newOf_at (s.free h) (k b o h e)
  · cases e
theorem bakB_mk {b : Bak} (h1 : 1 ≤ b.lights.length) (h2 : b.lights.length ≤ 40) (h3 : ∀ z ∈ b.lights, numD (.int z) = true) (h4 : boundB (optD b.bound) = true) (h5 : 1 ≤ b.goods.length) (h6 : b.goods.length ≤ 2)
    (h7 : ∀ g ∈ b.goods, g.days.length = b.lights.length ∧ lifeB (optD g.life) = true ∧ ∀ d ∈ g.days, dayB (dayD d) = true) : bakB (bakD b) = true := by
  have e1 : (b.lights.map PyData.int).all numD = true := by
    rw [List.all_eq_true]
    intro x hx
    obtain ⟨z, hz, rfl⟩ := List.mem_map.mp hx
    exact h3 z hz
  have e2 : (b.goods.map goodD).all (goodB (b.lights.map PyData.int).length) = true := by
    rw [List.all_eq_true]
    intro x hx
    obtain ⟨g, hg, rfl⟩ := List.mem_map.mp hx
    obtain ⟨g1, g2, g3⟩ := h7 g hg
    have e3 : (g.days.map dayD).all dayB = true := by
      rw [List.all_eq_true]
      intro y hy
      obtain ⟨d, hd, rfl⟩ := List.mem_map.mp hy
      exact g3 d hd
    simp only [goodD, goodB, e3, g2, List.length_map, g1, decide_true, Bool.and_self]
  rw [List.length_map] at e2
  simp only [bakD, bakB, lightsB, listB, e1, e2, h4, List.length_map, h1, h2, h5, h6, decide_true, Bool.and_self]
theorem ints_of : ∀ {xs : List V}, (∀ x ∈ xs, ∃ c : Int, x = .int c) → ∃ ns : List Int, xs = ns.map V.int
  | [], _ => ⟨[], rfl⟩
  | x :: r, h => by
    obtain ⟨c, rfl⟩ := h x List.mem_cons_self
    obtain ⟨ns, e⟩ := ints_of fun y hy => h y (List.mem_cons_of_mem _ hy)
    exact ⟨c :: ns, by rw [e]; rfl⟩
theorem cutV_upto (xs : List V) (n : Nat) : cutV xs none (some (n : Int)) = xs.take n := by
  unfold cutV
  rw [HT.sIx_nat, HT.sIx_none, List.drop_zero, Nat.sub_zero]
  by_cases h : n ≤ xs.length
  · rw [Nat.min_eq_left h]
  · rw [Nat.min_eq_right (by omega), List.take_of_length_le (Nat.le_refl _), List.take_of_length_le (by omega)]
theorem Tk.opt {H : Hp} {v : V} {o : Option Int} (h : Tk H v (optD o)) : v = Bk.optV o := (h.th (K := [])).opt
/-- a bakery in tracked objects, part by part -/
theorem Tk.bak {H : Hp} {x : V} {b : Bak} (h : Tk H x (bakD b)) : ∃ (a l g : Addr) (xl xg : List V), x = .ref a ∧ H a = some (.tup [.ref l, Bk.optV b.bound, .ref g]) ∧ H l = some (.lst xl) ∧ TkAll H xl (b.lights.map PyData.int) ∧ H g = some (.lst xg) ∧ TkAll H xg (b.goods.map goodD) := by
  cases h with
  | tup ht hta =>
  cases hta with
  | cons t1 hta => cases hta with
  | cons t2 hta => cases hta with
  | cons t3 hta =>
  cases hta
  cases t1 with
  | lst h1 h2 =>
  cases t3 with
  | lst h3 h4 =>
  rw [t2.opt] at ht
  exact ⟨_, _, _, _, _, rfl, ht, h1, h2, h3, h4⟩
theorem Tk.good {H : Hp} {x : V} {g : Good} (h : Tk H x (goodD g)) : ∃ t a xs, x = .ref t ∧ H t = some (.tup [.ref a, Bk.optV g.life]) ∧ H a = some (.lst xs) ∧ TkAll H xs (g.days.map dayD) := by
  cases h with
  | tup ht hta =>
  cases hta with
  | cons t1 hta => cases hta with
  | cons t2 hta =>
  cases hta
  cases t1 with
  | lst h1 h2 =>
  rw [t2.opt] at ht
  exact ⟨_, _, _, rfl, ht, h1, h2⟩
/-! ### a comprehension whose items are new things -/
theorem LcR.build {J : It} {n : Nat} {G : Hp → Prop} {Y : Nat → Hp → V → Hp → Prop} (w : Walk J n G Y) {g : TG} {te : TE} {vs : List Nat} {σ : L2.St} {H H1 : Hp} {D : Addr} {Qd : Hp → Prop} (es : List PyData) (hD : H1 D = none) (hn : es.length = n) (hz : n ≤ 100000)
    (hG : ∀ H, Same H1 H → G H) (hY : ∀ i H x H', Y i H x H' → Same H H')
    (hs : ∀ i x e H0 H', i < n → Same H1 H' → (∃ acc, H' D = some (.lst acc)) → Y i H0 x H' → es[i]? = some e → ∀ R : V → Hp → Prop, (∀ v H4, Same H' H4 → Tk (newBut H D D H4) v e → R v H4) → g x (wipe σ vs) H' fun σ2 H2 => wipe σ2 vs = wipe σ vs ∧ te σ2 H2 R)
    (hd : ∀ H' acc, Same H1 H' → H' D = some (.lst acc) → TkAll (newBut H D D H') acc es → Qd H') : LcR J g tYes te vs σ D H1 Qd := by
  refine LcR.by w (fun i H' => Same H1 H' ∧ ∃ acc, H' D = some (.lst acc) ∧ TkAll (newBut H D D H') acc (es.take i)) ⟨same_upd hD, [], upd_same, .nil⟩ (fun i H _ h => hG H h.1) (fun i x H0 H' hi h y => ?_) (fun H' h => ?_)
  · obtain ⟨s0, acc, ea, ta⟩ := h
    have s := hY _ _ _ _ y
    have e : es[i]? = some (es[i]'(by omega)) := List.getElem?_eq_getElem (by omega)
    refine hs i x _ H0 H' hi (s0.trans s) ⟨acc, s _ _ ea⟩ y e _ fun v H4 s4 tv => ?_
    have e4 := s4 _ _ (s _ _ ea)
    refine ⟨_, e4, ?_, same_mut ((s0.trans s).trans s4) hD, _, upd_same, ?_⟩
    · rw [ta.length, List.length_take]
      exact sz100l (by omega)
    · rw [List.take_add_one, e]
      refine (ta.same (newBut_mono fun b o h1 _ q => ?_)).append (.cons (tv.same (newBut_mono fun b o h1 _ q => ?_)) .nil)
      · rw [upd_ne h1]
        exact s4 _ _ (s _ _ q)
      · rw [upd_ne h1]
        exact q
  · obtain ⟨s0, acc, ea, ta⟩ := h
    rw [← hn, List.take_length] at ta
    exact hd H' acc s0 ea ta
/-! ### while, by the number of its turns -/
def WI (n : Nat) (Pv : Nat → L2.St → Hp → Prop) (m : Nat) (σ : L2.St) (H : Hp) : Prop := ∃ i, m = n - i ∧ i ≤ n ∧ Pv i σ H
def WStep (n : Nat) (Pv : Nat → L2.St → Hp → Prop) (i : Nat) (tb : TS) (D : Ends) (σ : L2.St) (H1 : Hp) : Prop := ∃ N : L2.St → Hp → Prop, (∀ σ' H', N σ' H' → ∃ m', m' < n - i ∧ WI n Pv m' σ' H') ∧ tb { D with nx := N, ct := N, bk := D.nx } σ H1
theorem while_by {c : TT} {tb : TS} {D : Ends} {σ : L2.St} {H : Hp} (n : Nat) (Pv : Nat → L2.St → Hp → Prop) (h0 : Pv 0 σ H) (hs : ∀ i σ H, i ≤ n → Pv i σ H → c σ H fun b H1 => if b = true then WStep n Pv i tb D σ H1 else D.nx σ H1) : tWhile c tb D σ H :=
  ⟨WI n Pv, ⟨n, 0, rfl, Nat.zero_le _, h0⟩, fun m σ H ⟨i, e, hi, p⟩ => by subst e; exact hs i σ H hi p⟩
theorem wstep {n i : Nat} {Pv : Nat → L2.St → Hp → Prop} {tb : TS} {D : Ends} {σ : L2.St} {H1 : Hp} (hi : i < n) (h : tb { D with nx := Pv (i + 1), ct := Pv (i + 1), bk := D.nx } σ H1) : WStep n Pv i tb D σ H1 :=
  ⟨Pv (i + 1), fun _ _ p => ⟨n - (i + 1), by omega, i + 1, rfl, by omega, p⟩, h⟩
end Bk

namespace Bk
open PySem PySem.Spec PyProof.Rows L2
/-! ### prices of loaves that cross -/
theorem sumO_append : ∀ {l m : List (Option Int)} {z : Int}, sumO (l ++ m) = some z → ∃ x y, sumO l = some x ∧ sumO m = some y ∧ x + y = z
  | [], m, z, h => ⟨0, z, rfl, h, Int.zero_add z⟩
  | none :: l, m, z, h => by cases h
  | some a :: l, m, z, h => by
    have h : (sumO (l ++ m)).map (a + ·) = some z := h
    cases e : sumO (l ++ m) with
    | none => rw [e] at h; cases h
    | some b =>
      rw [e] at h
      have h : a + b = z := Option.some.inj h
      obtain ⟨x, y, h1, h2, h3⟩ := sumO_append e
      refine ⟨a + x, y, ?_, h2, by omega⟩
      show (sumO l).map (a + ·) = some (a + x)
      rw [h1]
      rfl
theorem sumO_nonneg : ∀ {l : List (Option Int)} {z : Int}, (∀ o ∈ l, ∀ i, o = some i → 0 ≤ i) → sumO l = some z → 0 ≤ z
  | [], z, _, h => by
    have h : (0 : Int) = z := Option.some.inj h
    omega
  | none :: l, z, _, h => by cases h
  | some a :: l, z, hn, h => by
    have h : (sumO l).map (a + ·) = some z := h
    cases e : sumO l with
    | none => rw [e] at h; cases h
    | some b =>
      rw [e] at h
      have h : a + b = z := Option.some.inj h
      have h1 := sumO_nonneg (fun o ho => hn o (List.mem_cons_of_mem _ ho)) e
      have h2 := hn _ List.mem_cons_self a rfl
      omega
theorem seg_split {α : Type} (l : List α) {i j k : Nat} (h1 : i ≤ j) (h2 : j ≤ k) : (l.drop i).take (k - i) = (l.drop i).take (j - i) ++ (l.drop j).take (k - j) := by
  have e : k - i = (j - i) + (k - j) := by omega
  rw [e, List.take_add, List.drop_drop]
  congr 3
  omega
theorem sum_nonneg' : ∀ {l : List Int}, (∀ x ∈ l, 0 ≤ x) → 0 ≤ l.sum
  | [], _ => by decide
  | a :: r, h => by
    rw [List.sum_cons]
    have h1 := h a List.mem_cons_self
    have h2 := sum_nonneg' fun x hx => h x (List.mem_cons_of_mem _ hx)
    omega
theorem sum_append' : ∀ (l m : List Int), (l ++ m).sum = l.sum + m.sum
  | [], m => by rw [List.nil_append, List.sum_nil]; omega
  | a :: r, m => by rw [List.cons_append, List.sum_cons, List.sum_cons, sum_append' r m]; omega
theorem keepsL_split (ds : List Day) {i j k : Nat} (h1 : i ≤ j) (h2 : j ≤ k) : keepsL ds i k = keepsL ds i j + keepsL ds j k := by
  unfold keepsL
  rw [seg_split ds h1 h2, List.map_append, sum_append']
theorem finesL_split {ds : List Day} {i j k : Nat} {z : Int} (h1 : i ≤ j) (h2 : j ≤ k) (h : finesL ds i k = some z) : ∃ x y, finesL ds i j = some x ∧ finesL ds j k = some y ∧ x + y = z := by
  unfold finesL at h
  rw [seg_split ds h1 h2, List.map_append] at h
  exact sumO_append h
/-- keeps and fines are no less than 0 -/
structure NonNeg (ds : List Day) : Prop where
  keep : ∀ d ∈ ds, 0 ≤ d.keep
  fine : ∀ d ∈ ds, ∀ i, d.fine = some i → 0 ≤ i
theorem seg_mem {α : Type} {l : List α} {i n : Nat} {x : α} (h : x ∈ (l.drop i).take n) : x ∈ l := List.mem_of_mem_drop (List.mem_of_mem_take h)
theorem keepsL_nonneg {ds : List Day} (N : NonNeg ds) (i j : Nat) : 0 ≤ keepsL ds i j := sum_nonneg' fun x hx => by
  obtain ⟨d, hd, rfl⟩ := List.mem_map.mp hx
  exact N.keep d (seg_mem hd)
theorem finesL_nonneg {ds : List Day} (N : NonNeg ds) {i j : Nat} {z : Int} (h : finesL ds i j = some z) : 0 ≤ z := sumO_nonneg (fun o ho i e => by
  obtain ⟨d, hd, rfl⟩ := List.mem_map.mp ho
  exact N.fine d (seg_mem hd) i e) h
/-- what comes to the loaf price -/
def extP (g : Good) (j k : Nat) : Option Int := if k < j then finesL g.days k j else match g.life with
  | none => some (keepsL g.days j k)
  | some l => if l < (k : Int) - (j : Int) then none else some (keepsL g.days j k)
theorem loafP_ext {g : Good} {j k : Nat} {d : Day} (hd : g.days[j]? = some d) : loafP g j k = (extP g j k).map (d.loaf + ·) := by
  unfold loafP extP
  rw [hd]
  dsimp only
  by_cases h : k < j
  · rw [if_pos h, if_pos h]
  · rw [if_neg h, if_neg h]
    cases g.life with
    | none => rfl
    | some l =>
      dsimp only
      by_cases h2 : l < (k : Int) - (j : Int)
      · rw [if_pos h2, if_pos h2]
        rfl
      · rw [if_neg h2, if_neg h2]
        rfl
theorem ext_keep {g : Good} {j k : Nat} (h : j ≤ k) {z : Int} : extP g j k = some z ↔ (∀ l, g.life = some l → (k : Int) - (j : Int) ≤ l) ∧ keepsL g.days j k = z := by
  unfold extP
  rw [if_neg (by omega)]
  cases hl : g.life with
  | none => exact ⟨fun e => ⟨fun l h => (by cases h), Option.some.inj e⟩, fun e => by rw [e.2]⟩
  | some l =>
    dsimp only
    by_cases h2 : l < (k : Int) - (j : Int)
    · rw [if_pos h2]
      exact ⟨fun e => (by cases e), fun e => by have := e.1 l rfl; omega⟩
    · rw [if_neg h2]
      exact ⟨fun e => ⟨fun l' h' => (by cases h'; omega), Option.some.inj e⟩, fun e => by rw [e.2]⟩
theorem ext_fine {g : Good} {j k : Nat} (h : k < j) {z : Int} : extP g j k = some z ↔ finesL g.days k j = some z := by
  unfold extP
  rw [if_pos h]
theorem ext_cross {g : Good} (N : NonNeg g.days) {a c e l : Nat} (hac : a < c) (hel : e < l) {x y : Int} (h1 : extP g a l = some x) (h2 : extP g c e = some y) : ∃ z t, extP g a e = some z ∧ extP g c l = some t ∧ z + t ≤ x + y := by
  by_cases hal : a ≤ l
  · obtain ⟨hlf, hk1⟩ := (ext_keep hal).mp h1
    by_cases hce : c ≤ e
    · -- all ahead
      obtain ⟨_, hk2⟩ := (ext_keep hce).mp h2
      refine ⟨_, _, (ext_keep (by omega)).mpr ⟨fun m hm => by have := hlf m hm; omega, rfl⟩, (ext_keep (by omega)).mpr ⟨fun m hm => by have := hlf m hm; omega, rfl⟩, ?_⟩
      have e1 := keepsL_split g.days (show a ≤ c by omega) hce
      have e2 := keepsL_split g.days (show a ≤ c by omega) (show c ≤ l by omega)
      omega
    · have hf := (ext_fine (show e < c by omega)).mp h2
      by_cases hae : a ≤ e
      · by_cases hcl : c ≤ l
        · refine ⟨_, _, (ext_keep hae).mpr ⟨fun m hm => by have := hlf m hm; omega, rfl⟩, (ext_keep hcl).mpr ⟨fun m hm => by have := hlf m hm; omega, rfl⟩, ?_⟩
          have e1 := keepsL_split g.days hae (show e ≤ l by omega)
          have e2 := keepsL_split g.days (show e ≤ c by omega) hcl
          have n1 := keepsL_nonneg N e c
          have n2 := finesL_nonneg N hf
          omega
        · obtain ⟨u, v, f1, f2, f3⟩ := finesL_split (show e ≤ l by omega) (show l ≤ c by omega) hf
          refine ⟨_, _, (ext_keep hae).mpr ⟨fun m hm => by have := hlf m hm; omega, rfl⟩, (ext_fine (by omega)).mpr f2, ?_⟩
          have e1 := keepsL_split g.days hae (show e ≤ l by omega)
          have n1 := keepsL_nonneg N e l
          have n2 := finesL_nonneg N f1
          omega
      · obtain ⟨u, v, f1, f2, f3⟩ := finesL_split (show e ≤ a by omega) (show a ≤ c by omega) hf
        by_cases hcl : c ≤ l
        · refine ⟨_, _, (ext_fine (by omega)).mpr f1, (ext_keep hcl).mpr ⟨fun m hm => by have := hlf m hm; omega, rfl⟩, ?_⟩
          have e1 := keepsL_split g.days (show a ≤ c by omega) hcl
          have n1 := keepsL_nonneg N a c
          have n2 := finesL_nonneg N f2
          omega
        · obtain ⟨u2, v2, k1, k2, k3⟩ := finesL_split (show e ≤ l by omega) (show l ≤ c by omega) hf
          obtain ⟨u3, v3, m1, m2, m3⟩ := finesL_split (show e ≤ a by omega) hal k1
          have e3 : u = u3 := Option.some.inj (f1.symm.trans m1)
          refine ⟨_, _, (ext_fine (by omega)).mpr f1, (ext_fine (by omega)).mpr k2, ?_⟩
          have n1 := keepsL_nonneg N a l
          have n2 := finesL_nonneg N m2
          omega
  · have hf1 := (ext_fine (show l < a by omega)).mp h1
    have hf2 := (ext_fine (show e < c by omega)).mp h2
    obtain ⟨u, v, f1, f2, f3⟩ := finesL_split (show e ≤ a by omega) (show a ≤ c by omega) hf2
    obtain ⟨u2, v2, k1, k2, k3⟩ := finesL_split (show e ≤ l by omega) (show l ≤ c by omega) hf2
    obtain ⟨u3, v3, m1, m2, m3⟩ := finesL_split (show e ≤ l by omega) (show l ≤ a by omega) f1
    refine ⟨_, _, (ext_fine (by omega)).mpr f1, (ext_fine (by omega)).mpr k2, ?_⟩
    have e1 : u2 = u3 := Option.some.inj (k1.symm.trans m1)
    have e2 : v3 = x := Option.some.inj (m2.symm.trans hf1)
    omega
theorem loaf_cross {g : Good} (N : NonNeg g.days) {a c e l : Nat} (hac : a < c) (hel : e < l) (hc : c < g.days.length) {x y : Int} (h1 : loafP g a l = some x) (h2 : loafP g c e = some y) : ∃ z t, loafP g a e = some z ∧ loafP g c l = some t ∧ z + t ≤ x + y := by
  have da : g.days[a]? = some (g.days[a]'(by omega)) := List.getElem?_eq_getElem (by omega)
  have dc : g.days[c]? = some g.days[c] := List.getElem?_eq_getElem hc
  rw [loafP_ext da] at h1
  rw [loafP_ext dc] at h2
  cases e1 : extP g a l with
  | none => rw [e1] at h1; cases h1
  | some x' =>
    cases e2 : extP g c e with
    | none => rw [e2] at h2; cases h2
    | some y' =>
      rw [e1] at h1
      rw [e2] at h2
      have h1 := Option.some.inj h1
      have h2 := Option.some.inj h2
      obtain ⟨z, t, q1, q2, q3⟩ := ext_cross N hac hel e1 e2
      refine ⟨_, _, by rw [loafP_ext da, q1]; rfl, by rw [loafP_ext dc, q2]; rfl, ?_⟩
      dsimp only at h1 h2 ⊢
      omega
theorem bak_nonneg {b : Bak} {g : Good} {i : Nat} (h : bakB (bakD b) = true) (hg : b.goods[i]? = some g) : NonNeg g.days := by
  obtain ⟨ls, bo, gs, e, h1, h2, h3, h4⟩ := bakB_inv h
  unfold bakD at e
  injection e with e
  injection e with e1 e
  injection e with e2 e
  injection e with e3 e
  injection e3 with e3
  subst e3
  have h5 := List.all_eq_true.mp h4 (goodD g) (List.mem_map.mpr ⟨g, List.mem_of_getElem? hg, rfl⟩)
  obtain ⟨ds, l, e4, e5, _, h6⟩ := goodB_inv h5
  unfold goodD at e4
  injection e4 with e4
  injection e4 with e4 _
  injection e4 with e4
  subst e4
  have key : ∀ d ∈ g.days, dayB (dayD d) = true := fun d hd => List.all_eq_true.mp h6 (dayD d) (List.mem_map.mpr ⟨d, hd, rfl⟩)
  have nn : ∀ i, numD (.int i) = true → 0 ≤ i := fun i h => of_decide_eq_true (Bool.and_eq_true_iff.mp h).1
  refine ⟨fun d hd => ?_, fun d hd i e => ?_⟩
  · have k := key d hd
    simp only [dayD, dayB, Bool.and_eq_true] at k
    exact nn _ k.1.2
  · have k := key d hd
    simp only [dayD, dayB, Bool.and_eq_true, e, optD, noneB, Bool.false_or] at k
    exact nn _ k.2
theorem rNin_r {K : PySem.W.Frag} {x : V} {p : Addr} {H : Hp} {Q : VK} : rIn K true x (.ref p) H Q = ∃ xs, (SqL K H p xs ∨ SqT K H p xs) ∧ flatV x = true ∧ xs.all flatV = true ∧ Q (.bl (!inV x xs)) H :=
  propext ⟨fun ⟨_, xs, e, h⟩ => by cases e; exact ⟨xs, h⟩, fun ⟨xs, h⟩ => ⟨p, xs, rfl, h⟩⟩
end Bk

namespace Bk
open PySem PySem.Spec PyProof.Rows L2
/-! ### defs that are called where no text of a container is being written: repr may be asked there -/
/-- as a def's promise, but only around calls whose guards are none -/
def RunG (P : Program) (w : World) (K : PySem.W.Frag) (mg : Str → Option Value) (base : Heap) (k : Nat) (f : Addr) (fd : FuncData) (ps : List Str) (sp : Sp) : Prop :=
  (∀ vs H Q E, sp vs H Q E → vs.length = ps.length) ∧
  ∀ (A : Around) (outer : List Env) (s : Shared) (H : Hp) (args : Args) (us : List Value) (vs : List V) (Q : VK) (E : XK), A.guards = some [] → Room k A → Env0 P w K mg base A outer s H → BindsTo s fd args (ps.zip us) → Vals vs us → sp vs H Q E →
    codeAny (model P w) A (.call (.ref f) args) (CR CX0 outer P w H s Q E) s
theorem runG_of {P : Program} {w : World} {K : PySem.W.Frag} {mg : Str → Option Value} {base : Heap} {x qual : Str} {st : Stmt} {f : Addr} {fd : FuncData} {N ps : List Str} {k : Nat} {sp : Sp} (F : Fun K x qual st f fd) (S : FnScope N ps (defScope st))
    (len : ∀ vs H Q E, sp vs H Q E → vs.length = ps.length)
    (body : ∀ (cdv : Value) (A : Around) (outer : List Env) (s : Shared) (H : Hp) (vs : List V) (Q : VK) (E : XK), A.guards = some [] → Room k (A.deeper (envOfC qual (defScope st) s.heap.objs.size f cdv)) → sp vs H Q E →
      ∃ t, PSs (cxOf CX0 P w K mg base N qual (defScope st) f cdv A outer s H E).nox (defBody st) t ∧ t { nx := fun _ H' => Q .non H', rt := Q } (L2.start N vs) H) : RunG P w K mg base (k + 1) f fd ps sp := by
  obtain ⟨oc, od, kV, doc, pm, an, cdv, ct, osl, rfl, lk, hcd⟩ := F.ex
  refine ⟨len, fun A outer s H args us vs Q E hA hr e0 hb r hs => ?_⟩
  have up : ∀ b o, base.get? b = some o → s.heap.get? b = some o := fun b o e => (e0.bs b o e).1
  have kin : K.In s.heap := e0.mod.kin.keeps up
  have places : ∀ y ∈ ps.zip us, (defScope st).names.lookup y.1 = some .local ∨ ((defScope st).names.lookup y.1 = some .cell ∧ ((cellsFrom (s.heap.objs.size + 1) (defScope st).names []).lookup y.1).isSome = true) := by
    rintro ⟨n, v⟩ hy
    exact (S.par n (List.of_mem_zip hy).1).elim .inl fun q => .inr ⟨q, PySem.W.cellsFrom_some _ _ _ (.inl q)⟩
  refine codeAny_call_function hr.depth (kin _ _ lk) rfl S.co S.gen rfl (PySem.W.codeRec_of kin hcd) (hb _ _ _ _ (wpAny_newFunctionEnv_cells S.kind places fun env he s1 z => ?_))
  subst he
  refine ⟨(e0.mod.nolimit.keeps up).keeps z.toInCall.keep, codeAny_func ?_⟩
  obtain ⟨t, ht, ht2⟩ := body cdv A outer s H vs Q E hA (hr.deeper _) hs
  have J := inv_start (CX := CX0) (E := E) S hr.hd e0 (len _ _ _ _ hs) r z
  refine wpAny_mono (ht.nox.run [] s1 _ H _ J ht2) (fun fl s' g => ?_) fun _ _ g => g
  cases fl with
  | next =>
    obtain ⟨_, H', J', q⟩ := g
    exact ⟨.non, H', J'.os, J'.bare, J'.base, J'.hok, rfl, q⟩
  | ret u =>
    obtain ⟨v, _, H', J', rv, q⟩ := g
    exact ⟨v, H', J'.os, J'.bare, J'.base, J'.hok, rv, q⟩
  | brk =>
    obtain ⟨_, _, _, q⟩ := g
    exact q.elim
  | cont =>
    obtain ⟨_, _, _, q⟩ := g
    exact q.elim
/-- the law's own call: nothing but the script is tracked -/
theorem law_runG {P : Program} {w : World} {K : PySem.W.Frag} {mg mb : Str → Option Value} {k : Nat} {fa a : Addr} {fd : FuncData} {x : Str} {sp : Sp} {t : Shared} {us : List Value} {ns : List Int} (kin : K.In t.heap) (glob : t.heap.Ns mainGlobals mg) (blt : t.heap.Ns builtinsNs mb)
    (boot : ∀ y : Str, y ≠ "__name__" → mb y = bootBuiltins y) (lim : t.heap.NoLimit) (none_g : t.gens = #[]) (at_a : t.heap.get? a = some { cls := .type "list", data := .seq us.toArray }) (its0 : IntsAre us ns) (few : ns.length ≤ sizeLine) (room : Room k callerA)
    (F : ∀ base : Heap, K.In base → base.Ns mainGlobals mg → RunG P w K mg base k fa fd [x] sp) (binds : ∀ (s : Shared) (u : Value), BindsTo s fd ⟨[u], []⟩ [(x, u)])
    (law : ∀ H : Hp, SqL K H a (ns.map V.int) → sp [.ref a] H (fun v _ => v = .bl true) fun _ _ _ => False) :
    codeAny (model P w) callerA (.call (.ref fa) ⟨[.ref a], []⟩) (fun r s' => r = .ok (.ret (.bool true)) ∧ OldK t.heap s'.heap ∧ s'.os = t.os ∧ AllBare s'.gens) t := by
  have rel0 := vals_ints its0
  have go : ∀ H : Hp, (∀ b o, H b = some o → b = a ∧ K.lookup a = none ∧ ∃ ob ys, o = .frz ob (.lst ys)) → SqL K H a (ns.map V.int) → HOk P w H t.heap →
      codeAny (model P w) callerA (.call (.ref fa) ⟨[.ref a], []⟩) (fun r s' => r = .ok (.ret (.bool true)) ∧ OldK t.heap s'.heap ∧ s'.os = t.os ∧ AllBare s'.gens) t := by
    intro H only seq hok
    have free : ∀ {b : Addr} {o : Obj} {es : Array DictEntry} {n : Nat}, t.heap.get? b = some o → o.data = .dict es n → H b = none := by
      intro b o es n e d
      cases q : H b with
      | none => rfl
      | some z =>
        obtain ⟨rfl, _⟩ := only b z q
        rw [at_a] at e
        cases e
        cases d
    have names : ∀ {b : Addr} {m : Str → Option Value}, t.heap.Ns b m → (hidT t.heap H).Ns b m := by
      rintro b m ⟨o, es, n, e, d, r⟩
      exact ⟨o, es, n, hidT_get e (free e d), d, r⟩
    have kin2 : K.In (hidT t.heap H) := by
      intro b o e
      refine hidT_get (kin b o e) ?_
      cases q : H b with
      | none => rfl
      | some z =>
        obtain ⟨rfl, n, _⟩ := only b z q
        rw [n] at e
        cases e
    obtain ⟨mc, l1, l2⟩ := lim
    have env : Env0 P w K mg (hidT t.heap H) callerA [] t H := by
      refine ⟨rfl, ⟨kin2, names glob, ⟨mb, names blt, boot⟩, ⟨mc, names l1, l2⟩⟩, fun b o e => of_hidT e, Nat.le_of_eq (hidT_size _ _), trivial, fun b hb => ?_, hok, .of_eq none_g⟩
      cases hb
    refine codeAny_mono ((F _ kin2 (names glob)).2 callerA [] t H ⟨[.ref a], []⟩ [.ref a] [.ref a] _ _ rfl room env (binds t (.ref a)) (.cons rfl .nil) (law H seq)) ?_
    intro r s' h
    match r, h with
    | .ok (.ret u), ⟨v, H', os, bare, un, hok', rl, q⟩ =>
      have q : v = .bl true := q
      subst q
      have rl : u = Value.bool true := rl
      subst rl
      refine ⟨rfl, OldK.of_keep fun b o e => ?_, os, bare⟩
      cases z : H b with
      | none => exact un.keep b o e z (fun m => nomatch m) (fun m => nomatch m)
      | some y =>
        obtain ⟨_, _, ob, ys, rfl⟩ := only b y z
        have k1 := (hok b _ z).1
        have k2 := (hok' b _ (un.frzs b ob _ z)).1
        rw [e] at k1
        cases k1
        exact k2
  cases hk : K.lookup a with
  | none =>
    refine go (fun b => if b = a then some (.frz { cls := .type "list", data := .seq us.toArray } (.lst (ns.map V.int))) else none) (fun b o e => ?_) (.inl (.inr ⟨_, if_pos rfl⟩)) (fun b o e => ?_)
    · try dsimp only at e
      split at e
      · rename_i hb
        exact ⟨hb, hk, _, _, (Option.some.inj e).symm⟩
      · cases e
    · try dsimp only at e
      split at e
      · rename_i hb
        subst hb
        cases e
        exact ⟨at_a, by rw [List.length_map]; exact few, us, _, rel0, at_a⟩
      · cases e
  | some o =>
    have e := kin a o hk
    rw [at_a] at e
    cases e
    refine go (fun _ => none) (fun b o e => by cases e) (.inr ⟨_, us.toArray, _, hk, rfl, rfl, rfl, ?_, by simpa using rel0⟩) (fun b o e => by cases e)
    rw [List.size_toArray, its0.length]
    exact few
theorem walk_G {l : PySem.W.OpenLaw} {n k : Nat} {q : Program} {loose : List Str} {XP : (Str → Option Value) → Heap → Prop} {YP : World → Heap → Prop} {d : DefRec} {K : Params → PySem.W.Frag} {sp : World → Sp} {x : Str}
    (most : l.most = some n) (line : n ≤ sizeLine) (nodef : d.params.defaults = []) (room : Room k callerA) (parts : ∀ (w : World) (h : Heap), YP w h → (K w.params).In h)
    (F : ∀ (w : World) (mg : Str → Option Value) (fa : Addr) (h : Heap), (K w.params).In h → h.Ns mainGlobals mg → mg d.name = some (.ref fa) → ∃ fd : FuncData, (∀ (s : Shared) (u : Value), BindsTo s fd ⟨[u], []⟩ [(x, u)]) ∧
        ∀ base : Heap, (K w.params).In base → base.Ns mainGlobals mg → RunG l.prog w (K w.params) mg base k fa fd [x] (sp w))
    (law : ∀ (w : World) (H : Hp) (a : Addr) (ns : List Int), ns.length ≤ n → SqL (K w.params) H a (ns.map V.int) → sp w [.ref a] H (fun v _ => v = .bl true) fun _ _ _ => False) :
    PySem.W.WalkO q loose XP YP l.row.toRowW d [] (fun f vs => PySem.call f vs) := by
  refine Att.attach_call most nodef fun w s0 s1 mg mb fa o pm cd doc a us ns G Y _ _ _ named obj its0 len gens => ?_
  obtain ⟨fd, hb, hF⟩ := F w mg fa _ (parts w _ Y) G.T.g named
  exact law_runG (parts w _ Y) G.T.g G.T.b G.T.builtins G.T.nolimit gens obj its0 (Nat.le_trans len line) room hF hb fun H => law w H a ns len
/-! ### repr of data without dicts -/
mutual
theorem Th.dp {K : PySem.W.Frag} {H : Hp} : ∀ {v : V} {d : PyData}, Th K H v d → d.hasDict = false → Dp K H v d
  | _, _, .non, _ => .non
  | _, _, .bl b, _ => .bl b
  | _, _, .int i, _ => .int i
  | _, _, .str x, _ => .str x
  | _, _, .lst h t, n => .lst h (ThAll.dp t (by simpa only [PyData.hasDict] using n))
  | _, _, .tup h t, n => .tup h (ThAll.dp t (by simpa only [PyData.hasDict] using n))
  | _, _, .dic _, n => by simp only [PyData.hasDict] at n; cases n
theorem ThAll.dp {K : PySem.W.Frag} {H : Hp} : ∀ {vs : List V} {ds : List PyData}, ThAll K H vs ds → PyData.hasDictAll ds = false → DpAll K H vs ds
  | _, _, .nil, _ => .nil
  | _, _, .cons h t, n => by
    simp only [PyData.hasDictAll, Bool.or_eq_false_iff] at n
    exact .cons (Th.dp h n.1) (ThAll.dp t n.2)
end
/-- what may be shown: ints of few figures, not too deep, not too long -/
structure Shows (d : PyData) : Prop where
  nodict : d.hasDict = false
  able : d.showable = true
  deep : d.depth ≤ 60
  short : d.shown.length ≤ sizeLine
def rRepr (K : PySem.W.Frag) : List V → Hp → VK → Prop := fun xs H Q => ∃ x d, xs = [x] ∧ Th K H x d ∧ Shows d ∧ Q (.str d.shown) H
theorem call_repr {X : Cx} (hg : X.A.guards = some []) (hu : X.A.units + 64 < cLine) : CallR X (.builtin "repr") (rRepr X.K) := by
  intro pins s σ H xs us Q I r h
  obtain ⟨x, d, rfl, hx, hd, q⟩ := h
  cases r with
  | cons rx rr =>
  cases rr
  rename_i u
  obtain ⟨as, rd⟩ := Dp.reads I d x u (hx.dp hd.nodict) rx
  have deep := hd.deep
  cases hx with
  | non =>
    cases (show u = Value.none from rx)
    exact PySem.P.repr_of_none ⟨.str (PyData.shown .none), H, I.tok _, ⟨_, rfl⟩, q⟩
  | bl b =>
    cases (show u = Value.bool b from rx)
    exact PySem.P.repr_of_bool ⟨.str (PyData.shown (.bool b)), H, I.tok _, ⟨_, rfl⟩, q⟩
  | int i =>
    obtain ⟨t, rfl⟩ := (show ∃ t, u = Value.int i t from rx)
    have ha : i.natAbs.log2 < 1920 := by
      have := hd.able
      simpa only [PyData.showable, decide_eq_true_eq] using this
    exact PySem.P.repr_of_int ha ⟨.str (PyData.shown (.int i)), H, I.tok _, ⟨_, rfl⟩, q⟩
  | str y =>
    obtain ⟨t, rfl⟩ := (show ∃ t, u = Value.str y t from rx)
    exact PySem.P.repr_of_str ⟨.str (PyData.shown (.str y)), H, I.tok _, ⟨_, rfl⟩, q⟩ hd.short
  | lst h t =>
    rename_i a xs ds
    cases (show u = Value.ref a from rx)
    refine repr_of_reads' rd hd.able (fun z => ?_) hg (by omega) (fun _ _ e => e) (fun h' u tk hk => ⟨.str (PyData.shown (.list ds)), H, I.kept (h' := h') (t' := tk) hk, ⟨_, rfl⟩, q⟩) hd.short
    rw [hd.nodict] at z
    cases z
  | tup h t =>
    rename_i a xs ds
    cases (show u = Value.ref a from rx)
    refine repr_of_reads' rd hd.able (fun z => ?_) hg (by omega) (fun _ _ e => e) (fun h' u tk hk => ⟨.str (PyData.shown (.tuple ds)), H, I.kept (h' := h') (t' := tk) hk, ⟨_, rfl⟩, q⟩) hd.short
    rw [hd.nodict] at z
    cases z
  | dic h =>
    have z := hd.nodict
    simp only [PyData.hasDict] at z
    cases z
theorem rRepr_r {K : PySem.W.Frag} {x : V} {H : Hp} {Q : VK} : rRepr K [x] H Q = ∃ d, Th K H x d ∧ Shows d ∧ Q (.str d.shown) H := propext ⟨fun ⟨y, d, e, h⟩ => by cases e; exact ⟨d, h⟩, fun ⟨d, h⟩ => ⟨x, d, rfl, h⟩⟩
/-! ### data of small numbers -/
mutual
/-- no dict, no text, ints below 10 ** 12 -/
def smB : PyData → Bool
  | .none | .bool _ => true
  | .int i => decide (i.natAbs < 10 ^ 12)
  | .str _ | .dict _ => false
  | .list xs | .tuple xs => smAll xs
def smAll : List PyData → Bool
  | [] => true
  | x :: xs => smB x && smAll xs
end
theorem log12 {n : Nat} (h : n < 10 ^ 12) : n.log2 < 40 := by
  by_cases h0 : n = 0
  · subst h0
    decide
  · exact (Nat.log2_lt h0).mpr (Nat.lt_of_lt_of_le h (by decide))
mutual
theorem sm_facts : ∀ d : PyData, smB d = true → d.hasDict = false ∧ d.showable = true ∧ d.leavesShort 13 = true
  | .none, _ => by simp only [PyData.hasDict, PyData.showable, PyData.leavesShort, and_self]
  | .bool _, _ => by simp only [PyData.hasDict, PyData.showable, PyData.leavesShort, and_self]
  | .int i, h => by
    have h : i.natAbs < 10 ^ 12 := by simpa only [smB, decide_eq_true_eq] using h
    have h1 := log12 h
    have h2 := PyData.shown_int_le h
    simp only [PyData.hasDict, PyData.showable, PyData.leavesShort, decide_eq_true_eq, true_and]
    exact ⟨by omega, h2⟩
  | .str _, h => by simp only [smB] at h; cases h
  | .dict _, h => by simp only [smB] at h; cases h
  | .list xs, h => by
    have h1 := smAll_facts xs (by simpa only [smB] using h)
    simpa only [PyData.hasDict, PyData.showable, PyData.leavesShort] using h1
  | .tuple xs, h => by
    have h1 := smAll_facts xs (by simpa only [smB] using h)
    simpa only [PyData.hasDict, PyData.showable, PyData.leavesShort] using h1
theorem smAll_facts : ∀ ds : List PyData, smAll ds = true → PyData.hasDictAll ds = false ∧ PyData.showableAll ds = true ∧ PyData.leavesShortAll 13 ds = true
  | [], _ => by simp only [PyData.hasDictAll, PyData.showableAll, PyData.leavesShortAll, and_self]
  | x :: xs, h => by
    have h : smB x = true ∧ smAll xs = true := by simpa only [smAll, Bool.and_eq_true] using h
    obtain ⟨a1, a2, a3⟩ := sm_facts x h.1
    obtain ⟨b1, b2, b3⟩ := smAll_facts xs h.2
    simp only [PyData.hasDictAll, PyData.showableAll, PyData.leavesShortAll, a1, a2, a3, b1, b2, b3, Bool.or_self, Bool.and_self, and_self]
end
theorem smAll_of {ds : List PyData} (h : ∀ d ∈ ds, smB d = true) : smAll ds = true := by
  induction ds with
  | nil => simp only [smAll]
  | cons x r ih =>
    simp only [smAll, h x List.mem_cons_self, ih fun d hd => h d (List.mem_cons_of_mem _ hd), Bool.and_self]
theorem weightAll_le {c : Nat} {ds : List PyData} (h : ∀ d ∈ ds, d.weight ≤ c) : PyData.weightAll ds ≤ ds.length * (c + 1) := by
  induction ds with
  | nil => simp only [PyData.weightAll, List.length_nil, Nat.zero_mul, Nat.le_refl]
  | cons x r ih =>
    have h1 := h x List.mem_cons_self
    have h2 := ih fun d hd => h d (List.mem_cons_of_mem _ hd)
    simp only [PyData.weightAll, List.length_cons, Nat.add_mul, Nat.one_mul]
    omega
theorem depthAll_le {c : Nat} {ds : List PyData} (h : ∀ d ∈ ds, d.depth ≤ c) : PyData.depthAll ds ≤ c := by
  induction ds with
  | nil => simp only [PyData.depthAll, Nat.zero_le]
  | cons x r ih =>
    have h1 := h x List.mem_cons_self
    have h2 := ih fun d hd => h d (List.mem_cons_of_mem _ hd)
    simp only [PyData.depthAll]
    omega
theorem shows_of {d : PyData} (h : smB d = true) (hw : d.weight ≤ 1000000) (hd : d.depth ≤ 60) : Shows d := by
  obtain ⟨a, b, c⟩ := sm_facts d h
  exact ⟨a, b, hd, PyData.shown_fits (by decide) (by decide) c (Nat.le_trans hw (by decide))⟩
theorem numD_sm {i : Int} (h : numD (.int i) = true) : i.natAbs < 10 ^ 12 := by
  simp only [numD, Bool.and_eq_true, decide_eq_true_eq] at h
  have : i.natAbs ≤ 1000000000 := by omega
  exact Nat.lt_of_le_of_lt this (by decide)
theorem weight_int {i : Int} (h : i.natAbs < 10 ^ 12) : (PyData.int i).weight ≤ 40 := by
  have := log12 h
  simp only [PyData.weight]
  split <;> omega
theorem opt_small {o : Option Int} (h : noneB (optD o) = true ∨ ∀ i, o = some i → i.natAbs < 10 ^ 12) : smB (optD o) = true ∧ (optD o).weight ≤ 40 ∧ (optD o).depth = 0 := by
  cases o with
  | none => exact ⟨by simp only [optD, smB], by simp only [optD, PyData.weight]; omega, by simp only [optD, PyData.depth]⟩
  | some i =>
    have h : i.natAbs < 10 ^ 12 := by
      rcases h with h | h
      · cases h
      · exact h i rfl
    exact ⟨by simp only [optD, smB, decide_eq_true_eq]; exact h, weight_int h, by simp only [optD, PyData.depth]⟩
theorem day_small {d : Day} (h : dayB (dayD d) = true) : smB (dayD d) = true ∧ (dayD d).weight ≤ 200 ∧ (dayD d).depth ≤ 1 := by
  simp only [dayD, dayB, Bool.and_eq_true] at h
  obtain ⟨⟨⟨h1, h2⟩, h3⟩, h4⟩ := h
  have n1 := numD_sm h1
  have n2 := numD_sm h2
  have n3 := numD_sm h3
  have o := opt_small (o := d.fine) (by
    rcases Bool.or_eq_true_iff.mp h4 with z | z
    · exact .inl z
    · exact .inr fun i e => by rw [e] at z; exact numD_sm z)
  have w1 := weight_int n1
  have w2 := weight_int n2
  have w3 := weight_int n3
  refine ⟨?_, ?_, ?_⟩
  · simp only [dayD, smB, smAll, n1, n2, n3, decide_true, Bool.and_self, Bool.true_and, Bool.and_true]
    exact o.1
  · have o2 := o.2.1
    simp only [dayD, PyData.weight, PyData.weightAll] at w1 w2 w3 o2 ⊢
    omega
  · have o3 := o.2.2
    simp only [dayD, PyData.depth, PyData.depthAll, o3]
    decide
theorem bak_parts {b : Bak} (h : bakB (bakD b) = true) : (1 ≤ b.lights.length ∧ b.lights.length ≤ 40) ∧ (∀ z ∈ b.lights, numD (.int z) = true) ∧ boundB (optD b.bound) = true ∧ (1 ≤ b.goods.length ∧ b.goods.length ≤ 2) ∧
    ∀ g ∈ b.goods, g.days.length = b.lights.length ∧ lifeB (optD g.life) = true ∧ ∀ d ∈ g.days, dayB (dayD d) = true := by
  obtain ⟨ls, bo, gs, e, h1, h2, h3, h4⟩ := bakB_inv h
  unfold bakD at e
  injection e with e
  injection e with e1 e
  injection e with e2 e
  injection e with e3 e
  injection e1 with e1
  injection e3 with e3
  subst e1 e2 e3
  have l1 := Bool.and_eq_true_iff.mp h1
  have l2 := Bool.and_eq_true_iff.mp l1.1
  have l3 := Bool.and_eq_true_iff.mp h3
  have a1 := of_decide_eq_true l2.1
  have a2 := of_decide_eq_true l2.2
  have a3 := of_decide_eq_true l3.1
  have a4 := of_decide_eq_true l3.2
  rw [List.length_map] at a1 a2 a3 a4
  refine ⟨⟨a1, a2⟩, fun z hz => List.all_eq_true.mp l1.2 _ (List.mem_map.mpr ⟨z, hz, rfl⟩), h2, ⟨a3, a4⟩, fun g hg => ?_⟩
  have h5 := List.all_eq_true.mp h4 (goodD g) (List.mem_map.mpr ⟨g, hg, rfl⟩)
  obtain ⟨ds, l, e4, e5, e6, e7⟩ := goodB_inv h5
  unfold goodD at e4
  injection e4 with e4
  injection e4 with e4 e8
  injection e8 with e8 _
  injection e4 with e4
  subst e4 e8
  rw [List.length_map, List.length_map] at e5
  exact ⟨e5, e6, fun d hd => List.all_eq_true.mp e7 _ (List.mem_map.mpr ⟨d, hd, rfl⟩)⟩
theorem good_small {g : Good} {n : Nat} (h : g.days.length = n) (hn : n ≤ 40) (hl : lifeB (optD g.life) = true) (hd : ∀ d ∈ g.days, dayB (dayD d) = true) : smB (goodD g) = true ∧ (goodD g).weight ≤ 9000 ∧ (goodD g).depth ≤ 3 := by
  have o := opt_small (o := g.life) (by
    cases e : g.life with
    | none => exact .inl rfl
    | some i =>
      refine .inr fun j ej => ?_
      rw [e] at hl
      simp only [optD, lifeB, Bool.and_eq_true, decide_eq_true_eq] at hl
      cases ej
      exact Nat.lt_of_le_of_lt (show i.natAbs ≤ 40 by omega) (by decide))
  have hm : ∀ x ∈ g.days.map dayD, smB x = true ∧ x.weight ≤ 200 ∧ x.depth ≤ 1 := fun x hx => by
    obtain ⟨d, h1, rfl⟩ := List.mem_map.mp hx
    exact day_small (hd d h1)
  have w := weightAll_le (c := 200) fun x hx => (hm x hx).2.1
  have dp := depthAll_le (c := 1) fun x hx => (hm x hx).2.2
  rw [List.length_map, h] at w
  refine ⟨?_, ?_, ?_⟩
  · simp only [goodD, smB, smAll, smAll_of fun x hx => (hm x hx).1, o.1, Bool.and_self]
  · have o2 := o.2.1
    have w2 : n * 201 ≤ 40 * 201 := Nat.mul_le_mul_right _ hn
    simp only [goodD, PyData.weight, PyData.weightAll] at o2 ⊢
    omega
  · have o3 := o.2.2
    simp only [goodD, PyData.depth, PyData.depthAll, o3]
    omega
theorem shows_bak {b : Bak} (h : bakB (bakD b) = true) : Shows (bakD b) := by
  obtain ⟨⟨_, h1⟩, h2, h3, ⟨_, h4⟩, h5⟩ := bak_parts h
  have o := opt_small (o := b.bound) (by
    cases e : b.bound with
    | none => exact .inl rfl
    | some i =>
      refine .inr fun j ej => ?_
      rw [e] at h3
      simp only [optD, boundB, Bool.and_eq_true] at h3
      cases ej
      exact numD_sm h3.1)
  have hm : ∀ x ∈ b.goods.map goodD, smB x = true ∧ x.weight ≤ 9000 ∧ x.depth ≤ 3 := fun x hx => by
    obtain ⟨g, hg, rfl⟩ := List.mem_map.mp hx
    obtain ⟨g1, g2, g3⟩ := h5 g hg
    exact good_small g1 h1 g2 g3
  have hl : ∀ x ∈ b.lights.map PyData.int, smB x = true ∧ x.weight ≤ 40 ∧ x.depth ≤ 0 := fun x hx => by
    obtain ⟨z, hz, rfl⟩ := List.mem_map.mp hx
    have n := numD_sm (h2 z hz)
    exact ⟨by simp only [smB, decide_eq_true_eq]; exact n, weight_int n, by simp only [PyData.depth, Nat.le_refl]⟩
  have w1 := weightAll_le (c := 40) fun x hx => (hl x hx).2.1
  have w2 := weightAll_le (c := 9000) fun x hx => (hm x hx).2.1
  have d1 := depthAll_le (c := 0) fun x hx => (hl x hx).2.2
  have d2 := depthAll_le (c := 3) fun x hx => (hm x hx).2.2
  rw [List.length_map] at w1 w2
  have w3 : b.lights.length * 41 ≤ 40 * 41 := Nat.mul_le_mul_right _ h1
  have w4 : b.goods.length * 9001 ≤ 2 * 9001 := Nat.mul_le_mul_right _ h4
  refine shows_of ?_ ?_ ?_
  · simp only [bakD, smB, smAll, smAll_of fun x hx => (hl x hx).1, smAll_of fun x hx => (hm x hx).1, o.1, Bool.and_self]
  · have o2 := o.2.1
    simp only [bakD, PyData.weight, PyData.weightAll] at o2 ⊢
    omega
  · have o3 := o.2.2
    simp only [bakD, PyData.depth, PyData.depthAll, o3]
    omega
end Bk

namespace Bk
open PySem PySem.Spec PyProof.Rows L2
/-! ### ranges as values -/
def rRg1 : List V → Hp → VK → Prop := fun vs H Q => ∃ j, vs = [V.int j] ∧ ∀ p, H p = none → Q (.ref p) (upd H p (.rng 0 j))
def rRg2 : List V → Hp → VK → Prop := fun vs H Q => ∃ i j, vs = [V.int i, V.int j] ∧ ∀ p, H p = none → Q (.ref p) (upd H p (.rng i j))
theorem cr_rng2 {X : Cx} : CallR X (.type "range") rRg2 := cr_range2
theorem cr_rng1 {X : Cx} : CallR X (.type "range") rRg1 := fun pins s σ H vs us Q I r h => by
  obtain ⟨j, rfl, q⟩ := h
  obtain ⟨u, rfl, rj⟩ := vals1 r
  obtain ⟨t, rfl⟩ := rj
  exact call_range_1 ⟨.ref s.heap.objs.size, upd H s.heap.objs.size (.rng 0 j), I.laid (fun b o e => Heap.get?_push_of_some _ e) (Nat.le_refl _) (show ObjOk X.prog X.w _ _ _ (.rng 0 j) from ⟨_, _, _, Heap.get?_push_size _ rfl⟩), rfl, q _ (I.hok.fresh (Nat.le_refl _))⟩
theorem rRg1_i {j : Int} {H : Hp} {Q : VK} : rRg1 [.int j] H Q = ∀ p, H p = none → Q (.ref p) (upd H p (.rng 0 j)) := propext ⟨fun ⟨_, e, h⟩ => by cases e; exact h, fun h => ⟨j, rfl, h⟩⟩
theorem rRg2_i {i j : Int} {H : Hp} {Q : VK} : rRg2 [.int i, .int j] H Q = ∀ p, H p = none → Q (.ref p) (upd H p (.rng i j)) := propext ⟨fun ⟨_, _, e, h⟩ => by cases e; exact h, fun h => ⟨i, j, rfl, h⟩⟩
def rInr : R2 := fun x y H Q => ∃ i a lo hi, x = V.int i ∧ y = V.ref a ∧ H a = some (.rng lo hi) ∧ Q (.bl (decide (lo ≤ i ∧ i < hi))) H
theorem op_inr {X : Cx} : OpR X (compareOp .In) rInr := op_in_rng
theorem rInr_r {i : Int} {a : Addr} {H : Hp} {Q : VK} : rInr (.int i) (.ref a) H Q = ∃ lo hi, H a = some (.rng lo hi) ∧ Q (.bl (decide (lo ≤ i ∧ i < hi))) H := propext ⟨fun ⟨_, _, lo, hi, e1, e2, h⟩ => by cases e1; cases e2; exact ⟨lo, hi, h⟩, fun ⟨lo, hi, h⟩ => ⟨i, a, lo, hi, rfl, rfl, h⟩⟩
theorem ipI_ii {f : Int → Int → Int} {i j : Int} {H : Hp} {Q : VK} : ipI f (.int i) (.int j) H Q = Q (.int (f i j)) H := propext ⟨fun ⟨_, _, e1, e2, h⟩ => by cases e1; cases e2; exact h, fun h => ⟨i, j, rfl, rfl, h⟩⟩
theorem lay_ints : ∀ ns : List Int, PyData.canLayAll0 (ns.map PyData.int) = true
  | [] => by simp only [List.map, PyData.canLayAll0]
  | n :: r => by simp only [List.map, PyData.canLayAll0, PyData.canLay0, lay_ints r, Bool.and_self]
theorem depth_ints : ∀ ns : List Int, PyData.depthAll (ns.map PyData.int) = 0
  | [] => by simp only [List.map, PyData.depthAll]
  | n :: r => by simp only [List.map, PyData.depthAll, PyData.depth, depth_ints r]; decide
theorem shaped_ints (ns : List Int) : SeqAt.shaped (.list (ns.map PyData.int)) = true := by
  simp only [SeqAt.shaped, PyData.canLay0, lay_ints, PyData.depth, depth_ints, Bool.true_and]
  decide
theorem dp_ints {K : PySem.W.Frag} {H : Hp} : ∀ ns : List Int, DpAll K H (ns.map V.int) (ns.map PyData.int)
  | [] => .nil
  | n :: r => .cons (.int n) (dp_ints r)
/-- == of two lists of the same ints -/
theorem eq_ints {K : PySem.W.Frag} {H : Hp} {a b : Addr} {ns : List Int} {Q : VK} (h1 : SqL K H a (ns.map V.int)) (h2 : SqL K H b (ns.map V.int)) (q : Q (.bl true) H) : rEqD K (.ref a) (.ref b) H Q := by
  refine ⟨_, _, .lst h1 (dp_ints ns), .lst h2 (dp_ints ns), shaped_ints ns, shaped_ints ns, ?_⟩
  rw [SeqAt.eqv_refl _ (by simp only [PyData.canLay0, lay_ints])]
  exact q
/-! ### prices of stretches, and reaches -/
def wantP (g : Good) (j k : Nat) : Option Int := match g.days[k]? with
  | none => none
  | some d => if d.want = 0 then some 0 else (loafP g j k).map (d.want * ·)
def stretchP (g : Good) (j f n : Nat) : Option Int := sumO ((List.range n).map fun i => wantP g j (f + i))
theorem stretchP_zero (g : Good) (j f : Nat) : stretchP g j f 0 = some 0 := rfl
theorem sumO_snoc (l : List (Option Int)) (o : Option Int) : sumO (l ++ [o]) = match sumO l, o with
    | some x, some y => some (x + y)
    | _, _ => none := by
  induction l with
  | nil =>
    cases o with
    | none => rfl
    | some y =>
      show some (y + 0) = some (0 + y)
      rw [Int.add_zero, Int.zero_add]
  | cons a r ih =>
    cases a with
    | none => rfl
    | some a =>
      show (sumO (r ++ [o])).map (a + ·) = _
      rw [ih]
      show _ = match (sumO r).map (a + ·), o with
        | some x, some y => some (x + y)
        | _, _ => none
      cases sumO r with
      | none => rfl
      | some x =>
        cases o with
        | none => rfl
        | some y =>
          show some (a + (x + y)) = some (a + x + y)
          rw [Int.add_assoc]
theorem stretchP_succ (g : Good) (j f n : Nat) : stretchP g j f (n + 1) = match stretchP g j f n, wantP g j (f + n) with
    | some x, some y => some (x + y)
    | _, _ => none := by
  unfold stretchP
  rw [List.range_succ, List.map_append]
  exact sumO_snoc _ _
def reachF (g : Good) (k : Nat) : Int := match g.life with
  | none => 0
  | some l => if (k : Int) - l > 0 then (k : Int) - l else 0
/-- last is the last day of the reach -/
structure ReachL (g : Good) (k last : Nat) : Prop where
  le : k ≤ last
  lt : last < g.days.length
  fine : ∃ z, finesL g.days k last = some z
  stop : last + 1 < g.days.length → ∃ d, g.days[last]? = some d ∧ d.fine = none
theorem reach_iff {g : Good} {k last : Nat} (R : ReachL g k last) (hl : ∀ l, g.life = some l → 0 ≤ l) {j : Nat} (hj : j < g.days.length) : loafP g j k ≠ none ↔ reachF g k ≤ (j : Int) ∧ j ≤ last := by
  have dj : g.days[j]? = some g.days[j] := List.getElem?_eq_getElem hj
  rw [loafP_ext dj]
  have e0 : (extP g j k).map (g.days[j].loaf + ·) ≠ none ↔ ∃ z, extP g j k = some z := by
    cases extP g j k with
    | none => exact ⟨fun h => absurd rfl h, fun ⟨z, h⟩ => by cases h⟩
    | some z => exact ⟨fun _ => ⟨z, rfl⟩, fun _ h => by cases h⟩
  rw [e0]
  by_cases hkj : k < j
  · have hF : reachF g k ≤ (j : Int) := by
      unfold reachF
      cases e : g.life with
      | none =>
        dsimp only
        omega
      | some l =>
        have := hl l e
        dsimp only
        split <;> omega
    constructor
    · rintro ⟨z, h⟩
      refine ⟨hF, ?_⟩
      by_cases hle : j ≤ last
      · exact hle
      · exfalso
        obtain ⟨d, hd, hn⟩ := R.stop (by omega)
        have hf := (ext_fine hkj).mp h
        obtain ⟨u, v, _, f2, _⟩ := finesL_split R.le (show last ≤ j by omega) hf
        obtain ⟨u2, v2, f3, _, _⟩ := finesL_split (show last ≤ last + 1 by omega) (show last + 1 ≤ j by omega) f2
        unfold finesL at f3
        rw [show last + 1 - last = 1 by omega] at f3
        obtain ⟨hlt, e⟩ := List.getElem?_eq_some_iff.mp hd
        rw [List.drop_eq_getElem_cons hlt, e] at f3
        have f3 : sumO [d.fine] = some u2 := f3
        rw [hn] at f3
        cases f3
    · rintro ⟨_, hle⟩
      obtain ⟨z, hz⟩ := R.fine
      obtain ⟨u, v, f1, _, _⟩ := finesL_split (show k ≤ j by omega) hle hz
      exact ⟨u, (ext_fine hkj).mpr f1⟩
  · have hjl : j ≤ last := by have := R.le; omega
    constructor
    · rintro ⟨z, h⟩
      refine ⟨?_, hjl⟩
      obtain ⟨h1, _⟩ := (ext_keep (show j ≤ k by omega)).mp h
      unfold reachF
      cases e : g.life with
      | none =>
        dsimp only
        omega
      | some l =>
        have := h1 l e
        dsimp only
        split <;> omega
    · rintro ⟨h1, _⟩
      refine ⟨_, (ext_keep (show j ≤ k by omega)).mpr ⟨fun l e => ?_, rfl⟩⟩
      unfold reachF at h1
      rw [e] at h1
      have := hl l e
      dsimp only at h1
      split at h1 <;> omega
theorem sumO_join' : ∀ {l m : List (Option Int)} {x y : Int}, sumO l = some x → sumO m = some y → sumO (l ++ m) = some (x + y)
  | [], m, x, y, h1, h2 => by
    have h1 : (0 : Int) = x := Option.some.inj h1
    rw [← h1, Int.zero_add]
    exact h2
  | none :: l, m, x, y, h1, h2 => by cases h1
  | some a :: l, m, x, y, h1, h2 => by
    have h1 : (sumO l).map (a + ·) = some x := h1
    cases e : sumO l with
    | none => rw [e] at h1; cases h1
    | some b =>
      rw [e] at h1
      have h1 : a + b = x := Option.some.inj h1
      show (sumO (l ++ m)).map (a + ·) = some (x + y)
      rw [sumO_join' e h2]
      show some (a + (b + y)) = some (x + y)
      rw [← h1, Int.add_assoc]
theorem filter_range {f l : Nat} (p : Nat → Bool) (hp : ∀ j, p j = (decide (f ≤ j) && decide (j ≤ l))) : ∀ n : Nat, (List.range n).filter p = (List.range (min n (l + 1) - f)).map (f + ·)
  | 0 => by rw [show min 0 (l + 1) - f = 0 by omega]; rfl
  | n + 1 => by
    rw [List.range_succ, List.filter_append, filter_range p hp n]
    by_cases h : f ≤ n ∧ n ≤ l
    · have e : p n = true := by rw [hp, Bool.and_eq_true, decide_eq_true_eq, decide_eq_true_eq]; exact h
      rw [List.filter_cons_of_pos e, List.filter_nil, show min (n + 1) (l + 1) - f = (min n (l + 1) - f) + 1 by omega, List.range_succ, List.map_append]
      congr 1
      show [n] = [f + (min n (l + 1) - f)]
      congr 1
      omega
    · have e : ¬ p n = true := by rw [hp, Bool.and_eq_true, decide_eq_true_eq, decide_eq_true_eq]; exact h
      rw [List.filter_cons_of_neg e, List.filter_nil, List.append_nil, show min (n + 1) (l + 1) - f = min n (l + 1) - f by omega]
theorem rgV_nat (f m : Nat) : rgV (f : Int) ((f + m : Nat) : Int) = (((List.range m).map (f + ·)).map fun j => ((j : Nat) : Int)).map V.int := by
  unfold rgV
  rw [show (((f + m : Nat) : Int) - (f : Int)).toNat = m by omega, List.map_map, List.map_map]
  apply List.map_congr_left
  intro i _
  show V.int ((f : Int) + (i : Int)) = V.int ((f + i : Nat) : Int)
  congr 1
theorem reachF_nonneg (g : Good) (k : Nat) : 0 ≤ reachF g k := by
  unfold reachF
  cases g.life with
  | none => exact Int.le_refl _
  | some l =>
    dsimp only
    split <;> omega
theorem reachF_le {g : Good} {k : Nat} (hl : ∀ l, g.life = some l → 0 ≤ l) : reachF g k ≤ (k : Int) := by
  unfold reachF
  cases e : g.life with
  | none =>
    dsimp only
    omega
  | some l =>
    have := hl l e
    dsimp only
    split <;> omega
theorem life_nonneg {g : Good} (h : lifeB (optD g.life) = true) : ∀ l, g.life = some l → 0 ≤ l := fun l e => by
  rw [e] at h
  simp only [optD, lifeB, Bool.and_eq_true, decide_eq_true_eq] at h
  exact h.1
end Bk

namespace Bk
open PySem PySem.Spec PyProof.Rows L2
/-! ### the row of least costs: what it is -/
/-- from the m first days' end back: the least of row f + cost + the prices from f to m -/
def lbo (row : Nat → Int) (w : Nat → Option Int) : Nat → Int → Option Int → Option Int
  | 0, _, least => least
  | m + 1, cost, least => match w m with
    | none => least
    | some p => lbo row w m (cost + p) (some (match least with
      | none => row m + (cost + p)
      | some l => if row m + (cost + p) < l then row m + (cost + p) else l))
def segP (w : Nat → Option Int) (f n : Nat) : Option Int := sumO ((List.range n).map fun i => w (f + i))
theorem segP_zero (w : Nat → Option Int) (f : Nat) : segP w f 0 = some 0 := rfl
theorem segP_succ {w : Nat → Option Int} {f n : Nat} {s : Int} (h : segP w f (n + 1) = some s) : ∃ x y, segP w f n = some x ∧ w (f + n) = some y ∧ s = x + y := by
  unfold segP at h
  rw [List.range_succ, List.map_append] at h
  have h := (sumO_snoc _ _).symm.trans h
  cases e1 : sumO ((List.range n).map fun i => w (f + i)) with
  | none =>
    rw [e1] at h
    cases h
  | some x =>
    rw [e1] at h
    have h : (match some x, w (f + n) with
      | some x, some y => some (x + y)
      | _, _ => none) = some s := h
    cases e2 : w (f + n) with
    | none =>
      rw [e2] at h
      cases h
    | some y =>
      rw [e2] at h
      exact ⟨x, y, e1, rfl, (Option.some.inj h).symm⟩
theorem segP_add {w : Nat → Option Int} {f n : Nat} {x y : Int} (h1 : segP w f n = some x) (h2 : w (f + n) = some y) : segP w f (n + 1) = some (x + y) := by
  unfold segP at h1 ⊢
  rw [List.range_succ, List.map_append]
  refine (sumO_snoc _ _).trans ?_
  rw [h1]
  show (match some x, w (f + n) with
      | some x, some y => some (x + y)
      | _, _ => none) = _
  rw [h2]
theorem lbo_from {row : Nat → Int} {w : Nat → Option Int} : ∀ (m : Nat) (cost : Int) (least : Option Int) (v : Int), lbo row w m cost least = some v → least = some v ∨ ∃ f s, f < m ∧ segP w f (m - f) = some s ∧ v = row f + cost + s
  | 0, cost, least, v, h => .inl h
  | m + 1, cost, least, v, h => by
    unfold lbo at h
    cases hw : w m with
    | none =>
      rw [hw] at h
      exact .inl h
    | some p =>
      rw [hw] at h
      have base : segP w m (m + 1 - m) = some p := by
        rw [show m + 1 - m = 0 + 1 by omega]
        have := segP_add (segP_zero w m) (show w (m + 0) = some p from hw)
        rw [this, Int.zero_add]
      rcases lbo_from m (cost + p) _ v h with e | ⟨f, s, hf, hs, e⟩
      · have e := Option.some.inj e
        cases least with
        | none => exact .inr ⟨m, p, by omega, base, by dsimp only at e; omega⟩
        | some l =>
          dsimp only at e
          split at e
          · exact .inr ⟨m, p, by omega, base, by omega⟩
          · exact .inl (congrArg some e)
      · refine .inr ⟨f, s + p, by omega, ?_, by omega⟩
        rw [show m + 1 - f = (m - f) + 1 by omega]
        exact segP_add hs (by rw [show f + (m - f) = m by omega]; exact hw)
theorem lbo_keep {row : Nat → Int} {w : Nat → Option Int} : ∀ (m : Nat) (cost : Int) (l : Int), ∃ v, lbo row w m cost (some l) = some v ∧ v ≤ l
  | 0, cost, l => ⟨l, rfl, Int.le_refl _⟩
  | m + 1, cost, l => by
    unfold lbo
    cases hw : w m with
    | none => exact ⟨l, rfl, Int.le_refl _⟩
    | some p =>
      obtain ⟨v, h1, h2⟩ := lbo_keep (row := row) (w := w) m (cost + p) (if row m + (cost + p) < l then row m + (cost + p) else l)
      refine ⟨v, h1, ?_⟩
      split at h2 <;> omega
theorem lbo_least {row : Nat → Int} {w : Nat → Option Int} : ∀ (m : Nat) (cost : Int) (least : Option Int) (f : Nat) (s : Int), f < m → segP w f (m - f) = some s → ∃ v, lbo row w m cost least = some v ∧ v ≤ row f + cost + s
  | 0, _, _, f, _, hf, _ => by omega
  | m + 1, cost, least, f, s, hf, hs => by
    rw [show m + 1 - f = (m - f) + 1 by omega] at hs
    obtain ⟨x, y, h1, h2, h3⟩ := segP_succ hs
    rw [show f + (m - f) = m by omega] at h2
    unfold lbo
    rw [h2]
    dsimp only
    by_cases hfm : f < m
    · obtain ⟨v, e1, e2⟩ := lbo_least m (cost + y) (some (match least with
        | none => row m + (cost + y)
        | some l => if row m + (cost + y) < l then row m + (cost + y) else l)) f x hfm h1
      exact ⟨v, e1, by omega⟩
    · have hfm : f = m := by omega
      subst hfm
      rw [Nat.sub_self] at h1
      have h1 : (0 : Int) = x := Option.some.inj h1
      obtain ⟨v, e1, e2⟩ := lbo_keep (row := row) (w := w) f (cost + y) (match least with
        | none => row f + (cost + y)
        | some l => if row f + (cost + y) < l then row f + (cost + y) else l)
      refine ⟨v, e1, ?_⟩
      cases least with
      | none =>
        dsimp only at e2
        omega
      | some l =>
        dsimp only at e2
        split at e2 <;> omega
/-- v is the cost of a choice for the m + 1 first days: a stretch from f on, baked on b, behind the f first days; or nothing wanted on day m -/
def Choice (g : Good) (lights row : Nat → Int) (m : Nat) (v : Int) : Prop := (∃ b f s, b ≤ m ∧ f ≤ m ∧ segP (wantP g b) f (m + 1 - f) = some s ∧ v = row f + lights b + s) ∨ ((∃ d, g.days[m]? = some d ∧ d.want = 0) ∧ v = row m)
structure IsRow (g : Good) (lights row : Nat → Int) (n : Nat) : Prop where
  zero : row 0 = 0
  some : ∀ m, m < n → Choice g lights row m (row (m + 1))
  least : ∀ m, m < n → ∀ v, Choice g lights row m v → row (m + 1) ≤ v
theorem IsRow.ext {g : Good} {lights row row' : Nat → Int} {n : Nat} (h : IsRow g lights row n) (h' : IsRow g lights row' n) : ∀ m, m ≤ n → row m = row' m := by
  intro m
  induction m using Nat.strongRecOn with
  | ind m ih =>
    intro hm
    cases m with
    | zero => rw [h.zero, h'.zero]
    | succ m =>
      have tr : ∀ v, Choice g lights row m v ↔ Choice g lights row' m v := by
        intro v
        have e : ∀ f, f ≤ m → row f = row' f := fun f hf => ih f (by omega) (by omega)
        constructor
        · rintro (⟨b, f, s, h1, h2, h3, h4⟩ | ⟨h1, h2⟩)
          · exact .inl ⟨b, f, s, h1, h2, h3, by rw [← e f h2]; exact h4⟩
          · exact .inr ⟨h1, by rw [← e m (by omega)]; exact h2⟩
        · rintro (⟨b, f, s, h1, h2, h3, h4⟩ | ⟨h1, h2⟩)
          · exact .inl ⟨b, f, s, h1, h2, h3, by rw [e f h2]; exact h4⟩
          · exact .inr ⟨h1, by rw [e m (by omega)]; exact h2⟩
      have a := h.least m (by omega) _ ((tr _).mpr (h'.some m (by omega)))
      have b := h'.least m (by omega) _ ((tr _).mp (h.some m (by omega)))
      omega
/-! ### days added -/
theorem seg_take {α : Type} (l : List α) {i k j : Nat} (h : k ≤ j) : ((l.take j).drop i).take (k - i) = (l.drop i).take (k - i) := by
  rw [List.drop_take, List.take_take]
  congr 1
  omega
theorem loafP_take {g : Good} {j b k : Nat} (hb : b < j) (hk : k < j) : loafP ⟨g.days.take j, g.life⟩ b k = loafP g b k := by
  unfold loafP
  rw [List.getElem?_take_of_lt hb]
  cases g.days[b]? with
  | none => rfl
  | some d =>
    dsimp only
    have e1 : finesL (g.days.take j) k b = finesL g.days k b := by
      unfold finesL
      rw [seg_take g.days (show b ≤ j by omega)]
    have e2 : keepsL (g.days.take j) b k = keepsL g.days b k := by
      unfold keepsL
      rw [seg_take g.days (show k ≤ j by omega)]
    rw [e1, e2]
theorem wantP_take {g : Good} {j b k : Nat} (hb : b < j) (hk : k < j) : wantP ⟨g.days.take j, g.life⟩ b k = wantP g b k := by
  unfold wantP
  rw [loafP_take hb hk]
  dsimp only
  rw [List.getElem?_take_of_lt hk]
theorem segP_take {g : Good} {j b f n : Nat} (hb : b < j) (hn : f + n ≤ j) : segP (wantP ⟨g.days.take j, g.life⟩ b) f n = segP (wantP g b) f n := by
  unfold segP
  congr 1
  apply List.map_congr_left
  intro i hi
  have := List.mem_range.mp hi
  exact wantP_take hb (by omega)
theorem Choice.take {g : Good} {lights row : Nat → Int} {j m : Nat} (hm : m < j) {v : Int} : Choice ⟨g.days.take j, g.life⟩ lights row m v ↔ Choice g lights row m v := by
  have e : ∀ b f, b ≤ m → f ≤ m → segP (wantP ⟨g.days.take j, g.life⟩ b) f (m + 1 - f) = segP (wantP g b) f (m + 1 - f) := fun b f h1 h2 => segP_take (by omega) (by omega)
  have ed : (g.days.take j)[m]? = g.days[m]? := List.getElem?_take_of_lt hm
  constructor
  · rintro (⟨b, f, s, h1, h2, h3, h4⟩ | ⟨⟨d, h1, h1'⟩, h2⟩)
    · exact .inl ⟨b, f, s, h1, h2, by rw [← e b f h1 h2]; exact h3, h4⟩
    · exact .inr ⟨⟨d, by rw [← ed]; exact h1, h1'⟩, h2⟩
  · rintro (⟨b, f, s, h1, h2, h3, h4⟩ | ⟨⟨d, h1, h1'⟩, h2⟩)
    · exact .inl ⟨b, f, s, h1, h2, by rw [e b f h1 h2]; exact h3, h4⟩
    · exact .inr ⟨⟨d, by show (g.days.take j)[m]? = _; rw [ed]; exact h1, h1'⟩, h2⟩
theorem IsRow.take {g : Good} {lights row : Nat → Int} {n j : Nat} (h : IsRow g lights row n) (hj : j ≤ n) : IsRow ⟨g.days.take j, g.life⟩ lights row j :=
  ⟨h.zero, fun m hm => (Choice.take hm).mpr (h.some m (by omega)), fun m hm v hv => h.least m (by omega) v ((Choice.take hm).mp hv)⟩
theorem wantP_own {g : Good} {m : Nat} {d : Day} (hd : g.days[m]? = some d) (hl : ∀ l, g.life = some l → 0 ≤ l) : wantP g m m = some (d.want * d.loaf) := by
  unfold wantP
  rw [hd]
  dsimp only
  by_cases hw : d.want = 0
  · rw [if_pos hw, hw, Int.zero_mul]
  · rw [if_neg hw, loafP_ext hd, (ext_keep (Nat.le_refl m)).mpr ⟨fun l e => by have := hl l e; omega, rfl⟩]
    show some (d.want * (d.loaf + keepsL g.days m m)) = _
    have e : keepsL g.days m m = 0 := by unfold keepsL; rw [Nat.sub_self]; rfl
    rw [e, Int.add_zero]
theorem own_choice {g : Good} {lights row : Nat → Int} {m : Nat} {d : Day} (hd : g.days[m]? = some d) (hl : ∀ l, g.life = some l → 0 ≤ l) : Choice g lights row m (row m + lights m + d.want * d.loaf) := by
  refine .inl ⟨m, m, _, Nat.le_refl _, Nat.le_refl _, ?_, rfl⟩
  rw [show m + 1 - m = 0 + 1 by omega]
  have := segP_add (segP_zero (wantP g m) m) (show wantP g m (m + 0) = some (d.want * d.loaf) from wantP_own hd hl)
  rw [this, Int.zero_add]
theorem Choice.congr {g : Good} {lights row row' : Nat → Int} {m : Nat} {v : Int} (e : ∀ f, f ≤ m → row f = row' f) (h : Choice g lights row m v) : Choice g lights row' m v := by
  rcases h with ⟨b, f, s, h1, h2, h3, h4⟩ | ⟨h1, h2⟩
  · exact .inl ⟨b, f, s, h1, h2, h3, by rw [← e f h2]; exact h4⟩
  · exact .inr ⟨h1, by rw [← e m (Nat.le_refl m)]; exact h2⟩
def rowF (rs : List Int) (i : Nat) : Int := rs.getD i 0
theorem rowF_snoc {rs : List Int} {v : Int} {f : Nat} (h : f < rs.length) : rowF (rs ++ [v]) f = rowF rs f := by
  unfold rowF
  rw [List.getD_eq_getElem?_getD, List.getD_eq_getElem?_getD, List.getElem?_append_left h]
theorem rowF_last {rs : List Int} {v : Int} {n : Nat} (h : rs.length = n) : rowF (rs ++ [v]) n = v := by
  unfold rowF
  rw [List.getD_eq_getElem?_getD, List.getElem?_append_right (by omega), h, Nat.sub_self]
  rfl
theorem rowF_get {rs : List Int} {f : Nat} (h : f < rs.length) : (rs.map V.int)[f]? = some (.int (rowF rs f)) := by
  unfold rowF
  rw [List.getElem?_map, List.getD_eq_getElem?_getD, List.getElem?_eq_getElem h]
  rfl
theorem IsRow.snoc {g : Good} {lights : Nat → Int} {rs : List Int} {n : Nat} {v : Int} (h : IsRow g lights (rowF rs) n) (hl : rs.length = n + 1) (hc : Choice g lights (rowF rs) n v) (hm : ∀ u, Choice g lights (rowF rs) n u → v ≤ u) : IsRow g lights (rowF (rs ++ [v])) (n + 1) := by
  have e : ∀ f, f ≤ n → rowF rs f = rowF (rs ++ [v]) f := fun f hf => (rowF_snoc (by omega)).symm
  have e' : ∀ f, f ≤ n → rowF (rs ++ [v]) f = rowF rs f := fun f hf => rowF_snoc (by omega)
  refine ⟨by rw [e' 0 (by omega)]; exact h.zero, fun m hmn => ?_, fun m hmn u hu => ?_⟩
  · by_cases hlt : m < n
    · rw [e' (m + 1) (by omega)]
      exact (h.some m hlt).congr fun f hf => e f (by omega)
    · have : m = n := by omega
      subst this
      rw [rowF_last hl]
      exact hc.congr e
  · by_cases hlt : m < n
    · rw [e' (m + 1) (by omega)]
      exact h.least m hlt u (hu.congr fun f hf => e' f (by omega))
    · have : m = n := by omega
      subst this
      rw [rowF_last hl]
      exact hm u (hu.congr e')
theorem IsRow.init (g : Good) (lights : Nat → Int) : IsRow g lights (rowF [0]) 0 := ⟨rfl, fun m h => by omega, fun m h => by omega⟩
/-! ### the least of the costs of each day of baking -/
def lbos (row lights : Nat → Int) (w : Nat → Nat → Option Int) (m c : Nat) : List (Option Int) := (List.range c).map fun b => lbo row (w b) (m + 1) (lights b) none
/-- a last stretch of the first m + 1 days, baked on one of the first c days -/
def ChC (row lights : Nat → Int) (w : Nat → Nat → Option Int) (c m : Nat) (v : Int) : Prop := ∃ b f s, b < c ∧ f ≤ m ∧ segP (w b) f (m + 1 - f) = some s ∧ v = row f + lights b + s
theorem lbos_mem {row lights : Nat → Int} {w : Nat → Nat → Option Int} {m c : Nat} {v : Int} (h : v ∈ (lbos row lights w m c).filterMap id) : ChC row lights w c m v := by
  obtain ⟨o, ho, e⟩ := List.mem_filterMap.mp h
  have e : o = some v := e
  subst e
  obtain ⟨b, hb, e⟩ := List.mem_map.mp ho
  have hb := List.mem_range.mp hb
  rcases lbo_from _ _ _ _ e with z | ⟨f, s, hf, hs, hv⟩
  · cases z
  · exact ⟨b, f, s, by omega, by omega, hs, hv⟩
theorem lbos_least {row lights : Nat → Int} {w : Nat → Nat → Option Int} {m c : Nat} {u : Int} (h : ChC row lights w c m u) : ∃ v, v ∈ (lbos row lights w m c).filterMap id ∧ v ≤ u := by
  obtain ⟨b, f, s, hb, hf, hs, hu⟩ := h
  obtain ⟨v, h1, h2⟩ := lbo_least (row := row) (w := w b) (m + 1) (lights b) none f s (by omega) hs
  exact ⟨v, List.mem_filterMap.mpr ⟨some v, List.mem_map.mpr ⟨b, List.mem_range.mpr (by omega), h1⟩, rfl⟩, by omega⟩
theorem own_chC {g : Good} {lights row : Nat → Int} {c m : Nat} {d : Day} (hc : m < c) (hd : g.days[m]? = some d) (hl : ∀ l, g.life = some l → 0 ≤ l) : ChC row lights (wantP g) c m (row m + lights m + d.want * d.loaf) := by
  refine ⟨m, m, _, hc, Nat.le_refl _, ?_, rfl⟩
  rw [show m + 1 - m = 0 + 1 by omega]
  have := segP_add (segP_zero (wantP g m) m) (show wantP g m (m + 0) = some (d.want * d.loaf) from wantP_own hd hl)
  rw [this, Int.zero_add]
theorem chC_choice {g : Good} {lights row : Nat → Int} {m : Nat} {v : Int} (h : ChC row lights (wantP g) (m + 1) m v) : Choice g lights row m v := by
  obtain ⟨b, f, s, hb, hf, hs, hv⟩ := h
  exact .inl ⟨b, f, s, by omega, hf, hs, hv⟩
theorem choice_chC {g : Good} {lights row : Nat → Int} {m : Nat} {v : Int} (h : Choice g lights row m v) : ChC row lights (wantP g) (m + 1) m v ∨ v = row m := by
  rcases h with ⟨b, f, s, hb, hf, hs, hv⟩ | ⟨_, h⟩
  · exact .inl ⟨b, f, s, by omega, hf, hs, hv⟩
  · exact .inr h
theorem choice_not {g : Good} {lights row : Nat → Int} {m : Nat} {d : Day} (hd : g.days[m]? = some d) (hw : d.want ≠ 0) {v : Int} (h : Choice g lights row m v) : ChC row lights (wantP g) (m + 1) m v := by
  rcases h with ⟨b, f, s, hb, hf, hs, hv⟩ | ⟨⟨d', h1, h2⟩, _⟩
  · exact ⟨b, f, s, by omega, hf, hs, hv⟩
  · rw [hd] at h1
    cases h1
    exact absurd h2 hw
end Bk

namespace Bk
open PySem PySem.Spec PyProof.Rows L2
theorem rMin_r {K : PySem.W.Frag} {p : Addr} {H : Hp} {Q : VK} : rMin K [.ref p] H Q = ∃ ns : List Int, SqL K H p (ns.map V.int) ∧ 0 < ns.length ∧ ∀ m, m ∈ ns → (∀ y, y ∈ ns → m ≤ y) → Q (.int m) H := propext ⟨fun ⟨a, bs, e, h⟩ => by cases e; exact ⟨bs, h⟩, fun ⟨bs, h⟩ => ⟨p, bs, rfl, h⟩⟩
def lcScope (d : Scope) (l : List Stmt) (i : Nat) : Scope := match l[i]? with
  | some (.Assign _ (.ListComp _ _ sc _) _) => sc
  | _ => d
/-- a comprehension that leaves the Nones out -/
theorem LcR.opts {K : PySem.W.Frag} {a : Addr} {te : TE} {tt : TT} {g : TG} {vs : List Nat} {σ : L2.St} {H1 : Hp} {D : Addr} {Qd : Hp → Prop} (os : List (Option Int)) (hD : H1 D = none) (hl : SqL K H1 a (os.map optV)) (hz : os.length ≤ 1000)
    (hs : ∀ (o : Option Int) (H : Hp) (R : Bool → Hp → (V → Hp → Prop) → Prop), True → ∀ (N : Hp → Prop) (M : V → Hp → Prop), (o = none → N H) → (∀ z, o = some z → M (.int z) H) → g (optV o) (wipe σ vs) H fun σ2 H2 => wipe σ2 vs = wipe σ vs ∧ tt σ2 H2 fun b H3 => if b = true then te σ2 H3 M else N H3)
    (hd : ∀ H, Same H1 H → H D = some (.lst ((os.filterMap id).map V.int)) → Qd H) : LcR (Itl K a) g tt te vs σ D H1 Qd := by
  have e0 : (os.map optV).length = os.length := List.length_map ..
  refine LcR.by (walk_list (xs := os.map optV)) (fun i H => Same H1 H ∧ H D = some (.lst (((os.take i).filterMap id).map V.int))) ⟨same_upd hD, by rw [upd_same]; rfl⟩ (fun i H _ h => h.1.seq hl) (fun i x H H' hi h y => ?_) (fun H h => hd H h.1 ?_)
  · obtain ⟨rfl, hx⟩ := y
    rw [List.getElem?_map] at hx
    obtain ⟨s, e⟩ := h
    cases ho : os[i]? with
    | none => rw [ho] at hx; cases hx
    | some o =>
      rw [ho] at hx
      cases hx
      refine hs o _ (fun _ _ _ => True) trivial _ _ (fun hn => ⟨s, ?_⟩) (fun z hz' => ⟨_, e, ?_, same_mut s hD, ?_⟩)
      · rw [e, List.take_add_one, ho, hn]
        simp
      · have h1 : ((os.take i).filterMap id).length ≤ (os.take i).length := List.length_filterMap_le ..
        rw [List.length_take] at h1
        rw [List.length_map]
        exact sz100l (by omega)
      · rw [upd_same, List.take_add_one, ho, hz']
        simp
  · rw [e0, List.take_length] at h
    exact h.2
theorem ThAll.intsV {K : PySem.W.Frag} {H : Hp} : ∀ {xs : List V} {ns : List Int}, ThAll K H xs (ns.map PyData.int) → xs = ns.map V.int
  | _, [], .nil => rfl
  | _, n :: r, .cons (.int _) t => by rw [ThAll.intsV t]; rfl
theorem life_ok {g : Good} (h : lifeB (optD g.life) = true) : ∀ l, g.life = some l → 0 ≤ l := by
  intro l e
  rw [e] at h
  simp only [optD, lifeB, Bool.and_eq_true, decide_eq_true_eq] at h
  exact h.1
theorem rgV_zero (m : Nat) : rgV 0 (m : Int) = (List.range m).map fun j : Nat => V.int (j : Int) := by
  unfold rgV
  rw [show ((m : Int) - 0).toNat = m by omega]
  apply List.map_congr_left
  intro i _
  rw [Int.zero_add]
end Bk

namespace Bk
open PySem PySem.Spec PyProof.Rows L2
/-! ### rows rise where nothing may wait -/
structure NonNegW (ds : List Day) : Prop where
  nn : NonNeg ds
  want : ∀ d ∈ ds, 0 ≤ d.want
  loaf : ∀ d ∈ ds, 0 ≤ d.loaf
theorem nonNegW_of {ds : List Day} (h : ∀ d ∈ ds, dayB (dayD d) = true) : NonNegW ds := by
  have num : ∀ i : Int, numD (.int i) = true → 0 ≤ i := fun i h => by
    simp only [numD, Bool.and_eq_true, decide_eq_true_eq] at h
    exact h.1
  have k : ∀ d ∈ ds, (numD (.int d.want) = true ∧ numD (.int d.loaf) = true) ∧ numD (.int d.keep) = true ∧ ∀ i, d.fine = some i → numD (.int i) = true := by
    intro d hd
    have k := h d hd
    simp only [dayD, dayB, Bool.and_eq_true] at k
    refine ⟨k.1.1, k.1.2, fun i e => ?_⟩
    have k2 := k.2
    rw [e] at k2
    simpa [optD, noneB] using k2
  exact ⟨⟨fun d hd => num _ (k d hd).2.1, fun d hd i e => num _ ((k d hd).2.2 i e)⟩, fun d hd => num _ (k d hd).1.1, fun d hd => num _ (k d hd).1.2⟩
theorem loafP_nonneg {g : Good} (N : NonNegW g.days) {b k : Nat} {z : Int} (h : loafP g b k = some z) : 0 ≤ z := by
  cases hd : g.days[b]? with
  | none =>
    unfold loafP at h
    rw [hd] at h
    cases h
  | some d =>
    rw [loafP_ext hd] at h
    have h0 := N.loaf d (List.mem_of_getElem? hd)
    cases he : extP g b k with
    | none => rw [he] at h; cases h
    | some e =>
      rw [he] at h
      have h : d.loaf + e = z := Option.some.inj h
      have : 0 ≤ e := by
        by_cases hkb : k < b
        · exact finesL_nonneg N.nn ((ext_fine hkb).mp he)
        · rw [← ((ext_keep (by omega)).mp he).2]
          exact keepsL_nonneg N.nn _ _
      omega
theorem wantP_nonneg {g : Good} (N : NonNegW g.days) {b k : Nat} {z : Int} (h : wantP g b k = some z) : 0 ≤ z := by
  unfold wantP at h
  cases hd : g.days[k]? with
  | none => rw [hd] at h; cases h
  | some d =>
    rw [hd] at h
    dsimp only at h
    split at h
    · have h : (0 : Int) = z := Option.some.inj h
      omega
    · cases hp : loafP g b k with
      | none => rw [hp] at h; cases h
      | some y =>
        rw [hp] at h
        have h : d.want * y = z := Option.some.inj h
        rw [← h]
        exact Int.mul_nonneg (N.want d (List.mem_of_getElem? hd)) (loafP_nonneg N hp)
theorem wantP_late {g : Good} (nf : ∀ d ∈ g.days, d.fine = none) {b k : Nat} (hk : k < b) {z : Int} (h : wantP g b k = some z) : ∃ d, g.days[k]? = some d ∧ d.want = 0 := by
  unfold wantP at h
  cases hd : g.days[k]? with
  | none => rw [hd] at h; cases h
  | some d =>
    rw [hd] at h
    dsimp only at h
    split at h
    · exact ⟨d, rfl, by assumption⟩
    · exfalso
      cases hp : loafP g b k with
      | none => rw [hp] at h; cases h
      | some y =>
        cases hb : g.days[b]? with
        | none =>
          unfold loafP at hp
          rw [hb] at hp
          cases hp
        | some d' =>
          rw [loafP_ext hb] at hp
          cases he : extP g b k with
          | none => rw [he] at hp; cases hp
          | some e =>
            have hf := (ext_fine hk).mp he
            unfold finesL at hf
            obtain ⟨hlt, e1⟩ := List.getElem?_eq_some_iff.mp hd
            rw [List.drop_eq_getElem_cons hlt, e1, show b - k = (b - k - 1) + 1 by omega] at hf
            have hf : sumO (d.fine :: ((g.days.drop (k + 1)).take (b - k - 1)).map Day.fine) = some e := hf
            rw [nf d (List.mem_of_getElem? hd)] at hf
            cases hf
theorem segP_all {w : Nat → Option Int} {f : Nat} : ∀ {n : Nat} {s : Int}, segP w f n = some s → ∀ i, i < n → ∃ z, w (f + i) = some z
  | 0, _, _, i, hi => by omega
  | n + 1, s, h, i, hi => by
    obtain ⟨x, y, h1, h2, _⟩ := segP_succ h
    by_cases e : i < n
    · exact segP_all h1 i e
    · have : i = n := by omega
      subst this
      exact ⟨y, h2⟩
theorem segP_nonneg {w : Nat → Option Int} {f : Nat} (nn : ∀ k z, w k = some z → 0 ≤ z) : ∀ {n : Nat} {s : Int}, segP w f n = some s → 0 ≤ s
  | 0, s, h => by
    have : (0 : Int) = s := Option.some.inj h
    omega
  | n + 1, s, h => by
    obtain ⟨x, y, h1, h2, h3⟩ := segP_succ h
    have := segP_nonneg nn h1
    have := nn _ _ h2
    omega
theorem row_flat {g : Good} {lights row : Nat → Int} {n : Nat} (h : IsRow g lights row n) {f : Nat} : ∀ m, f ≤ m → m ≤ n → (∀ k, f ≤ k → k < m → ∃ d, g.days[k]? = some d ∧ d.want = 0) → row m ≤ row f
  | 0, h1, _, _ => by rw [show f = 0 by omega]; exact Int.le_refl _
  | m + 1, h1, h2, hz => by
    by_cases e : f = m + 1
    · rw [e]; exact Int.le_refl _
    · have a := row_flat h m (by omega) (by omega) fun k k1 k2 => hz k k1 (by omega)
      have b := h.least m (by omega) _ (.inr ⟨hz m (by omega) (by omega), rfl⟩)
      omega
theorem row_up {g : Good} {lights row : Nat → Int} {n : Nat} (h : IsRow g lights row n) (hl : ∀ b, 0 ≤ lights b) (N : NonNegW g.days) (nf : ∀ d ∈ g.days, d.fine = none) {m : Nat} (hm : m < n) : row m ≤ row (m + 1) := by
  rcases h.some m hm with ⟨b, f, s, hb, hf, hs, hv⟩ | ⟨_, hv⟩
  · have lb := hl b
    have sn : 0 ≤ s := segP_nonneg (fun k z e => wantP_nonneg N e) hs
    by_cases e : f = m
    · subst e
      omega
    · rw [show m + 1 - f = (m - f) + 1 by omega] at hs
      obtain ⟨x, y, h1, h2, h3⟩ := segP_succ hs
      have yn := wantP_nonneg N h2
      by_cases eb : b < m
      · have := h.least (m - 1) (by omega) (row f + lights b + x) (.inl ⟨b, f, x, by omega, by omega, by rw [show m - 1 + 1 - f = m - f by omega]; exact h1, rfl⟩)
        rw [show m - 1 + 1 = m by omega] at this
        omega
      · have eb : b = m := by omega
        subst eb
        have := row_flat h b (f := f) (by omega) (by omega) fun k k1 k2 => by
          obtain ⟨z, hz⟩ := segP_all h1 (k - f) (by omega)
          rw [show f + (k - f) = k by omega] at hz
          exact wantP_late nf k2 hz
        omega
  · omega
theorem rowF_nonneg {ls : List Int} (h : ∀ z ∈ ls, 0 ≤ z) (b : Nat) : 0 ≤ rowF ls b := by
  unfold rowF
  rw [List.getD_eq_getElem?_getD]
  cases e : ls[b]? with
  | none => exact Int.le_refl 0
  | some z => exact h z (List.mem_of_getElem? e)
/-! ### lists of days, compared -/
theorem lay_day (d : Day) : PyData.canLay0 (dayD d) = true ∧ (dayD d).depth ≤ 1 ∧ (dayD d).hasDict = false := by
  unfold dayD
  cases d.fine <;> simp [optD, PyData.canLay0, PyData.canLayAll0, PyData.depth, PyData.depthAll, PyData.hasDict, PyData.hasDictAll]
theorem lay_days : ∀ ds : List Day, PyData.canLayAll0 (ds.map dayD) = true ∧ PyData.hasDictAll (ds.map dayD) = false
  | [] => by simp [PyData.canLayAll0, PyData.hasDictAll]
  | d :: r => by
    obtain ⟨h1, _, h3⟩ := lay_day d
    obtain ⟨k1, k2⟩ := lay_days r
    simp only [List.map, PyData.canLayAll0, PyData.hasDictAll, h1, h3, k1, k2, Bool.and_self, Bool.or_self, and_self]
theorem shaped_days (ds : List Day) : SeqAt.shaped (.list (ds.map dayD)) = true := by
  have h : PyData.depthAll (ds.map dayD) ≤ 1 := depthAll_le fun x hx => by
    obtain ⟨d, _, rfl⟩ := List.mem_map.mp hx
    exact (lay_day d).2.1
  simp only [SeqAt.shaped, PyData.canLay0, (lay_days ds).1, PyData.depth, Bool.true_and]
  exact decide_eq_true (Nat.le_trans (Nat.add_le_add_right h 1) (by decide))
/-- days != [] -/
theorem ne_days {K : PySem.W.Frag} {H : Hp} {a b : Addr} {vs : List V} {ds : List Day} {Q : VK} (h1 : SqL K H a vs) (h2 : ThAll K H vs (ds.map dayD)) (h3 : SqL K H b []) (q : Q (.bl (decide (ds ≠ []))) H) : rNeD K (.ref a) (.ref b) H Q := by
  refine ⟨_, .list [], .lst h1 (h2.dp (lay_days ds).2), .lst h3 .nil, shaped_days ds, by simp [SeqAt.shaped, PyData.canLay0, PyData.canLayAll0, PyData.depth, PyData.depthAll], ?_⟩
  cases ds with
  | nil => exact q
  | cons d r => exact q
theorem Choice.lights {g : Good} {lights lights' row : Nat → Int} {m : Nat} {v : Int} (e : ∀ b, b ≤ m → lights b = lights' b) (h : Choice g lights row m v) : Choice g lights' row m v := by
  rcases h with ⟨b, f, s, h1, h2, h3, h4⟩ | h
  · exact .inl ⟨b, f, s, h1, h2, h3, by rw [← e b h1]; exact h4⟩
  · exact .inr h
theorem row_lights {g : Good} {lights lights' row : Nat → Int} {n : Nat} (e : ∀ b, b < n → lights b = lights' b) (h : IsRow g lights row n) : IsRow g lights' row n :=
  ⟨h.zero, fun m hm => (h.some m hm).lights fun b hb => e b (by omega), fun m hm v hv => h.least m hm v (hv.lights fun b hb => (e b (by omega)).symm)⟩
theorem rowF_take {ls : List Int} {m b : Nat} (h : b < m) : rowF (ls.take m) b = rowF ls b := by
  unfold rowF
  rw [List.getD_eq_getElem?_getD, List.getD_eq_getElem?_getD, List.getElem?_take_of_lt h]
theorem row_first {g : Good} {ls rs rs' : List Int} {n m : Nat} (h : IsRow g (rowF ls) (rowF rs) n) (hm : m ≤ n) (h' : IsRow ⟨g.days.take m, g.life⟩ (rowF (ls.take m)) (rowF rs') m) : rowF rs' m = rowF rs m :=
  IsRow.ext (row_lights (fun b hb => rowF_take hb) h') (h.take hm) m (Nat.le_refl m)
theorem rowF_end {rs : List Int} {m : Nat} (h : rs.length = m + 1) : atI (rs.map V.int) (-1) = some (.int (rowF rs m)) := by
  have e := rowF_get (rs := rs) (f := m) (by omega)
  have k : ixN (rs.map V.int).length (-1) = some m := by
    rw [List.length_map, h]
    unfold ixN
    rw [if_neg (by decide)]
    rw [if_pos (by omega)]
    congr 1
    omega
  unfold atI
  rw [k]
  exact e
end Bk

namespace Bk
open PySem PySem.Spec PyProof.Rows L2
/-! ### sums -/
def sumN (f : Nat → Int) : Nat → Int
  | 0 => 0
  | n + 1 => sumN f n + f n
theorem sumN_le {f f' : Nat → Int} : ∀ n, (∀ k, k < n → f k ≤ f' k) → sumN f n ≤ sumN f' n
  | 0, _ => Int.le_refl 0
  | n + 1, h => by
    have a := sumN_le n fun k hk => h k (by omega)
    have b := h n (by omega)
    show sumN f n + f n ≤ sumN f' n + f' n
    omega
theorem sumN_congr {f f' : Nat → Int} (n : Nat) (h : ∀ k, k < n → f k = f' k) : sumN f n = sumN f' n := by
  have a := sumN_le n fun k hk => Int.le_of_eq (h k hk)
  have b := sumN_le n fun k hk => Int.le_of_eq (h k hk).symm
  omega
theorem sumN_add (f f' : Nat → Int) : ∀ n, sumN (fun k => f k + f' k) n = sumN f n + sumN f' n
  | 0 => rfl
  | n + 1 => by
    show sumN (fun k => f k + f' k) n + (f n + f' n) = (sumN f n + f n) + (sumN f' n + f' n)
    rw [sumN_add f f' n]
    omega
theorem sumN_zero {f : Nat → Int} (n : Nat) (h : ∀ k, k < n → f k = 0) : sumN f n = 0 := by
  rw [sumN_congr (f' := fun _ => 0) n h]
  induction n with
  | zero => rfl
  | succ n ih =>
    show sumN (fun _ => 0) n + 0 = 0
    rw [ih fun k hk => h k (by omega)]
    rfl
theorem sumN_nonneg {f : Nat → Int} (n : Nat) (h : ∀ k, k < n → 0 ≤ f k) : 0 ≤ sumN f n := by
  have := sumN_le (f := fun _ => 0) n h
  rw [sumN_zero n fun _ _ => rfl] at this
  exact this
theorem sumN_split (f : Nat → Int) (m : Nat) : ∀ n, sumN f (m + n) = sumN f m + sumN (fun i => f (m + i)) n
  | 0 => by
    show sumN f m = sumN f m + 0
    omega
  | n + 1 => by
    show sumN f (m + n) + f (m + n) = sumN f m + (sumN (fun i => f (m + i)) n + f (m + n))
    rw [sumN_split f m n]
    omega
theorem sumN_grow {f : Nat → Int} {m n : Nat} (hmn : m ≤ n) (h : ∀ k, k < n → 0 ≤ f k) : sumN f m ≤ sumN f n := by
  have e := sumN_split f m (n - m)
  rw [show m + (n - m) = n by omega] at e
  have := sumN_nonneg (f := fun i => f (m + i)) (n - m) fun k hk => h _ (by omega)
  omega
theorem sumN_one {L : Nat → Int} {b : Nat} : ∀ n, b < n → sumN (fun x => if x = b then L x else 0) n = L b
  | 0, h => by omega
  | n + 1, h => by
    show sumN (fun x => if x = b then L x else 0) n + (if n = b then L n else 0) = L b
    by_cases e : n = b
    · subst e
      rw [if_pos rfl, sumN_zero n fun k hk => if_neg (by omega)]
      omega
    · rw [if_neg e, sumN_one n (by omega)]
      omega
theorem segP_of {w : Nat → Option Int} {q : Nat → Int} {f : Nat} : ∀ n, (∀ i, i < n → w (f + i) = some (q (f + i))) → segP w f n = some (sumN (fun i => q (f + i)) n)
  | 0, _ => rfl
  | n + 1, h => segP_add (segP_of n fun i hi => h i (by omega)) (h n (by omega))
theorem exists_least {P : Nat → Prop} (h : ∃ n, P n) : ∃ n, P n ∧ ∀ m, m < n → ¬ P m := by
  obtain ⟨n, hn⟩ := h
  induction n using Nat.strongRecOn with
  | ind n ih =>
    by_cases h : ∃ m, m < n ∧ P m
    · obtain ⟨m, hm, pm⟩ := h
      exact ih m hm pm
    · exact ⟨n, hn, fun m hm pm => h ⟨m, hm, pm⟩⟩
theorem exists_last {P : Nat → Prop} {n : Nat} (h : ∃ k, k < n ∧ P k) : ∃ k, k < n ∧ P k ∧ ∀ m, k < m → m < n → ¬ P m := by
  induction n with
  | zero =>
    obtain ⟨k, hk, _⟩ := h
    omega
  | succ n ih =>
    by_cases hn : P n
    · exact ⟨n, by omega, hn, fun m h1 h2 => by omega⟩
    · obtain ⟨k, hk, pk⟩ := h
      have : k < n := by
        by_cases e : k = n
        · subst e; exact absurd pk hn
        · omega
      obtain ⟨k', h1, h2, h3⟩ := ih ⟨k, this, pk⟩
      refine ⟨k', by omega, h2, fun m m1 m2 => ?_⟩
      by_cases e : m = n
      · subst e; exact hn
      · exact h3 m m1 (by omega)
/-! ### what a set of lit days costs -/
def wantN (g : Good) (k : Nat) : Int := match g.days[k]? with
  | none => 0
  | some d => d.want
structure MinP (g : Good) (S : Nat → Prop) (n k : Nat) (z : Int) : Prop where
  ex : ∃ b, b < n ∧ S b ∧ loafP g b k = some z
  le : ∀ b, b < n → S b → ∀ y, loafP g b k = some y → z ≤ y
open Classical in
noncomputable def litSum (lights : Nat → Int) (S : Nat → Prop) (n : Nat) : Int := sumN (fun b => if S b then lights b else 0) n
structure SetC (g : Good) (lights : Nat → Int) (S : Nat → Prop) (n : Nat) (p : Nat → Int) (c : Int) : Prop where
  min : ∀ k, k < n → wantN g k ≠ 0 → MinP g S n k (p k)
  cost : c = litSum lights S n + sumN (fun k => wantN g k * p k) n
theorem wantP_of {g : Good} {b k : Nat} {z : Int} (hk : k < g.days.length) (h : wantN g k ≠ 0 → loafP g b k = some z) : wantP g b k = some (wantN g k * z) := by
  have hd : g.days[k]? = some g.days[k] := List.getElem?_eq_getElem hk
  unfold wantN at h ⊢
  unfold wantP
  rw [hd] at h ⊢
  dsimp only at h ⊢
  by_cases e : g.days[k].want = 0
  · rw [if_pos e, e, Int.zero_mul]
  · rw [if_neg e, h e]
    rfl
theorem wantN_nonneg {g : Good} (N : NonNegW g.days) (k : Nat) : 0 ≤ wantN g k := by
  unfold wantN
  cases hd : g.days[k]? with
  | none => exact Int.le_refl 0
  | some d => exact N.want d (List.mem_of_getElem? hd)
theorem wantN_zero {g : Good} {k : Nat} (hk : k < g.days.length) (h : wantN g k = 0) : ∃ d, g.days[k]? = some d ∧ d.want = 0 := by
  have hd : g.days[k]? = some g.days[k] := List.getElem?_eq_getElem hk
  refine ⟨_, hd, ?_⟩
  unfold wantN at h
  rw [hd] at h
  exact h
/-- the first day of the set on which day k's loaves cost p -/
structure Sm (g : Good) (S : Nat → Prop) (n : Nat) (p : Nat → Int) (k b : Nat) : Prop where
  lt : b < n
  mem : S b
  at_ : loafP g b k = some (p k)
  first : ∀ b', b' < b → S b' → loafP g b' k ≠ some (p k)
theorem sm_ex {g : Good} {S : Nat → Prop} {n : Nat} {p : Nat → Int} {k : Nat} (h : MinP g S n k (p k)) : ∃ b, Sm g S n p k b := by
  obtain ⟨b, ⟨h1, h2, h3⟩, h4⟩ := exists_least h.ex
  exact ⟨b, h1, h2, h3, fun b' hb' hs e => h4 b' hb' ⟨by omega, hs, e⟩⟩
theorem sm_uniq {g : Good} {S : Nat → Prop} {n : Nat} {p : Nat → Int} {k b b' : Nat} (h : Sm g S n p k b) (h' : Sm g S n p k b') : b = b' := by
  by_cases e : b < b'
  · exact absurd h.at_ (h'.first b e h.mem)
  · by_cases e' : b' < b
    · exact absurd h'.at_ (h.first b' e' h'.mem)
    · omega
theorem sm_mono {g : Good} (N : NonNeg g.days) {S : Nat → Prop} {n : Nat} {p : Nat → Int} (hn : n ≤ g.days.length) {k k' b b' : Nat} (hk : k < k') (mk : MinP g S n k (p k)) (mk' : MinP g S n k' (p k')) (h : Sm g S n p k b) (h' : Sm g S n p k' b') : b ≤ b' := by
  by_cases e : b ≤ b'
  · exact e
  · exfalso
    have hb := h.lt
    obtain ⟨z, t, h1, h2, h3⟩ := loaf_cross N (show b' < b by omega) hk (by omega) h'.at_ h.at_
    have a1 := mk'.le b h.lt h.mem t h2
    have a2 := mk.le b' h'.lt h'.mem z h1
    exact h.first b' (by omega) h'.mem (by rw [h1, show z = p k by omega])
theorem finesL_join {ds : List Day} {i j k : Nat} {x y : Int} (h1 : i ≤ j) (h2 : j ≤ k) (a : finesL ds i j = some x) (b : finesL ds j k = some y) : finesL ds i k = some (x + y) := by
  unfold finesL at a b ⊢
  rw [seg_split ds h1 h2, List.map_append]
  exact sumO_join' a b
theorem loafP_ext' {g : Good} {j k : Nat} {d : Day} {z : Int} (hd : g.days[j]? = some d) (h : loafP g j k = some z) : ∃ e, extP g j k = some e ∧ d.loaf + e = z := by
  rw [loafP_ext hd] at h
  cases he : extP g j k with
  | none => rw [he] at h; cases h
  | some e =>
    rw [he] at h
    exact ⟨e, rfl, Option.some.inj h⟩
/-- who waits for a day takes all wants up to that day along -/
theorem sm_wait {g : Good} (N : NonNeg g.days) (hl : ∀ l, g.life = some l → 0 ≤ l) {S : Nat → Prop} {n : Nat} {p : Nat → Int} (hn : n ≤ g.days.length) {k k' b b' : Nat} (hk : k < k') (hb : k' ≤ b) (mk : MinP g S n k (p k)) (mk' : MinP g S n k' (p k')) (h : Sm g S n p k b) (h' : Sm g S n p k' b') : b' = b := by
  have hle := sm_mono N hn hk mk mk' h h'
  by_cases e : b' = b
  · exact e
  · exfalso
    have hlt : b < b' := by omega
    have l1 := h.lt
    have l2 := h'.lt
    have db : g.days[b]? = some (g.days[b]'(by omega)) := List.getElem?_eq_getElem (by omega)
    have db' : g.days[b']? = some (g.days[b']'(by omega)) := List.getElem?_eq_getElem (by omega)
    generalize g.days[b]'(by omega) = d at db
    generalize g.days[b']'(by omega) = d' at db'
    obtain ⟨x, hx, ex⟩ := loafP_ext' db h.at_
    obtain ⟨y, hy, ey⟩ := loafP_ext' db' h'.at_
    have fx := (ext_fine (show k < b by omega)).mp hx
    have fy := (ext_fine (show k' < b' by omega)).mp hy
    obtain ⟨y1, y2, f1, f2, e12⟩ := finesL_split hb (show b ≤ b' by omega) fy
    have fj := finesL_join (show k ≤ b by omega) (show b ≤ b' by omega) fx f2
    have pj : loafP g b' k = some (d'.loaf + (x + y2)) := by
      rw [loafP_ext db', (ext_fine (show k < b' by omega)).mpr fj]
      rfl
    have a1 := mk.le b' h'.lt h'.mem _ pj
    have pk : loafP g b k' = some (d.loaf + y1) := by
      by_cases ekb : k' < b
      · rw [loafP_ext db, (ext_fine ekb).mpr f1]
        rfl
      · have ekb : k' = b := by omega
        subst ekb
        have z1 : y1 = 0 := by
          unfold finesL at f1
          rw [Nat.sub_self] at f1
          exact (Option.some.inj f1).symm
        have z2 : keepsL g.days k' k' = 0 := by
          unfold keepsL
          rw [Nat.sub_self]
          rfl
        rw [loafP_ext db, (ext_keep (Nat.le_refl k')).mpr ⟨fun l el => by have := hl l el; omega, z2⟩, z1]
        rfl
    have a2 := mk'.le b h.lt h.mem _ pk
    exact h'.first b hlt h.mem (by rw [pk]; congr 1; omega)
open Classical in
/-- no set of lit days costs less than the row tells -/
theorem row_le_set {g : Good} {lights row : Nat → Int} {M : Nat} (h : IsRow g lights row M) (hM : M ≤ g.days.length) (hl : ∀ b, 0 ≤ lights b) (N : NonNegW g.days) (hlf : ∀ l, g.life = some l → 0 ≤ l) : ∀ n, n ≤ M → ∀ (S : Nat → Prop) (p : Nat → Int) (c : Int), SetC g lights S n p c → row n ≤ c := by
  intro n
  induction n using Nat.strongRecOn with
  | ind n ih =>
    intro hn S p c hc
    have ls0 : ∀ (S : Nat → Prop) m, 0 ≤ litSum lights S m := fun S m => sumN_nonneg m fun k _ => by
      show 0 ≤ (if S k then lights k else 0)
      split
      · exact hl k
      · exact Int.le_refl 0
    by_cases hw : ∃ k, k < n ∧ wantN g k ≠ 0
    · obtain ⟨kl, hkl, wkl, lastk⟩ := exists_last hw
      obtain ⟨bs, hbs⟩ := sm_ex (hc.min kl hkl wkl)
      obtain ⟨f, ⟨hf1, hf2, hf3⟩, hf4⟩ := exists_least (P := fun k => k < n ∧ wantN g k ≠ 0 ∧ Sm g S n p k bs) ⟨kl, hkl, wkl, hbs⟩
      have hfk : f ≤ kl := by
        by_cases e : f ≤ kl
        · exact e
        · exact absurd ⟨hkl, wkl, hbs⟩ (hf4 kl (by omega))
      have hbn := hbs.lt
      have lo : ∀ k, k < f → wantN g k ≠ 0 → ∃ b, Sm g S n p k b ∧ b < f ∧ b < bs := by
        intro k hk wk
        obtain ⟨b, hb⟩ := sm_ex (hc.min k (by omega) wk)
        have h1 := sm_mono N.nn (by omega) hk (hc.min k (by omega) wk) (hc.min f hf1 hf2) hb hf3
        have h2 : b ≠ bs := fun e => hf4 k hk ⟨by omega, wk, e ▸ hb⟩
        refine ⟨b, hb, ?_, by omega⟩
        by_cases e : b < f
        · exact e
        · exact absurd (sm_wait N.nn hlf (by omega) hk (by omega) (hc.min k (by omega) wk) (hc.min f hf1 hf2) hb hf3).symm h2
      have hi : ∀ k, f ≤ k → k < n → wantN g k ≠ 0 → loafP g bs k = some (p k) := by
        intro k hk hkn wk
        have hkkl : k ≤ kl := by
          by_cases e : k ≤ kl
          · exact e
          · exact absurd wk (lastk k (by omega) hkn)
        obtain ⟨b, hb⟩ := sm_ex (hc.min k hkn wk)
        have h1 : bs ≤ b := by
          by_cases e : f = k
          · subst e
            exact Nat.le_of_eq (sm_uniq hf3 hb)
          · exact sm_mono N.nn (by omega) (show f < k by omega) (hc.min f hf1 hf2) (hc.min k hkn wk) hf3 hb
        have h2 : b ≤ bs := by
          by_cases e : k = kl
          · subst e
            exact Nat.le_of_eq (sm_uniq hb hbs)
          · exact sm_mono N.nn (by omega) (show k < kl by omega) (hc.min k hkn wk) (hc.min kl hkl wkl) hb hbs
        have : b = bs := by omega
        subst this
        exact hb.at_
      -- the days ahead of the stretch
      have low : row f ≤ litSum lights (fun b => S b ∧ b < f ∧ b < bs) f + sumN (fun k => wantN g k * p k) f := by
        refine ih f hf1 (by omega) (fun b => S b ∧ b < f ∧ b < bs) p _ ⟨fun k hk wk => ?_, rfl⟩
        obtain ⟨b, hb, h1, h2⟩ := lo k hk wk
        exact ⟨⟨b, h1, ⟨hb.mem, h1, h2⟩, hb.at_⟩, fun b' hb' hs y hy => (hc.min k (by omega) wk).le b' (by omega) hs.1 y hy⟩
      -- the stretch
      have seg : segP (wantP g bs) f (n - f) = some (sumN (fun i => wantN g (f + i) * p (f + i)) (n - f)) := segP_of (q := fun k => wantN g k * p k) (n - f) fun i hi' => wantP_of (by omega) fun wk => hi (f + i) (by omega) (by omega) wk
      have least := h.least (n - 1) (by omega) _ (.inl ⟨bs, f, _, by omega, by omega, by rw [show n - 1 + 1 - f = n - f by omega]; exact seg, rfl⟩)
      rw [show n - 1 + 1 = n by omega] at least
      have spl := sumN_split (fun k => wantN g k * p k) f (n - f)
      rw [show f + (n - f) = n by omega] at spl
      -- the lights
      have lit : litSum lights (fun b => S b ∧ b < f ∧ b < bs) f + lights bs ≤ litSum lights S n := by
        have g1 : litSum lights (fun b => S b ∧ b < f ∧ b < bs) f ≤ litSum lights (fun b => S b ∧ b < f ∧ b < bs) n := sumN_grow (by omega) fun k _ => by
          dsimp only
          split
          · exact hl k
          · exact Int.le_refl 0
        have g2 := sumN_one (L := lights) n hbn
        have g3 : litSum lights (fun b => S b ∧ b < f ∧ b < bs) n + sumN (fun x => if x = bs then lights x else 0) n ≤ litSum lights S n := by
          unfold litSum
          rw [← sumN_add]
          refine sumN_le n fun k hk => ?_
          have lk := hl k
          by_cases e : k = bs
          · subst e
            rw [if_neg (fun z => by omega), if_pos rfl, if_pos hbs.mem]
            omega
          · rw [if_neg e]
            by_cases e2 : S k ∧ k < f ∧ k < bs
            · rw [if_pos e2, if_pos e2.1]
              omega
            · rw [if_neg e2]
              split <;> omega
        omega
      have cc := hc.cost
      omega
    · have z : ∀ k, k < n → wantN g k = 0 := fun k hk => Decidable.not_not.mp fun e => hw ⟨k, hk, e⟩
      have a := row_flat h (f := 0) n (by omega) hn fun k _ hk => wantN_zero (by omega) (z k hk)
      rw [h.zero] at a
      have b := hc.cost
      rw [sumN_zero n fun k hk => by rw [z k hk, Int.zero_mul]] at b
      have := ls0 S n
      omega
open Classical in
theorem exists_min {g : Good} {S : Nat → Prop} {k : Nat} : ∀ n, (∃ b z, b < n ∧ S b ∧ loafP g b k = some z) → ∃ z, MinP g S n k z
  | 0, h => by
    obtain ⟨b, z, hb, _⟩ := h
    omega
  | n + 1, h => by
    by_cases h0 : ∃ b z, b < n ∧ S b ∧ loafP g b k = some z
    · obtain ⟨z, ⟨b, hb, hs, hz⟩, hle⟩ := exists_min n h0
      by_cases hn : S n ∧ ∃ y, loafP g n k = some y ∧ y < z
      · obtain ⟨sn, y, hy, hyz⟩ := hn
        refine ⟨y, ⟨n, by omega, sn, hy⟩, fun b' hb' hs' y' hy' => ?_⟩
        by_cases e : b' = n
        · subst e
          rw [hy] at hy'
          have := Option.some.inj hy'
          omega
        · have := hle b' (by omega) hs' y' hy'
          omega
      · refine ⟨z, ⟨b, by omega, hs, hz⟩, fun b' hb' hs' y' hy' => ?_⟩
        by_cases e : b' = n
        · subst e
          by_cases hh : z ≤ y'
          · exact hh
          · exact absurd ⟨hs', y', hy', by omega⟩ hn
        · exact hle b' (by omega) hs' y' hy'
    · obtain ⟨b, z, hb, hs, hz⟩ := h
      have e : b = n := by
        by_cases e : b = n
        · exact e
        · exact absurd ⟨b, z, by omega, hs, hz⟩ h0
      subst e
      refine ⟨z, ⟨b, by omega, hs, hz⟩, fun b' hb' hs' y' hy' => ?_⟩
      by_cases e : b' = b
      · subst e
        rw [hz] at hy'
        have := Option.some.inj hy'
        omega
      · exact absurd ⟨b', y', by omega, hs', hy'⟩ h0
theorem wantP_inv {g : Good} {b k : Nat} {z : Int} (h : wantP g b k = some z) : (wantN g k = 0 ∧ z = 0) ∨ ∃ y, loafP g b k = some y ∧ z = wantN g k * y := by
  unfold wantP at h
  unfold wantN
  cases hd : g.days[k]? with
  | none => rw [hd] at h; cases h
  | some d =>
    rw [hd] at h
    dsimp only at h ⊢
    split at h
    · exact .inl ⟨by assumption, (Option.some.inj h).symm⟩
    · cases hp : loafP g b k with
      | none => rw [hp] at h; cases h
      | some y =>
        rw [hp] at h
        exact .inr ⟨y, rfl, (Option.some.inj h).symm⟩
theorem segP_sum {w : Nat → Option Int} {f : Nat} : ∀ {n : Nat} {s : Int}, segP w f n = some s → ∃ q : Nat → Int, (∀ i, i < n → w (f + i) = some (q (f + i))) ∧ s = sumN (fun i => q (f + i)) n
  | 0, s, h => ⟨fun _ => 0, fun i hi => by omega, (Option.some.inj h).symm⟩
  | n + 1, s, h => by
    obtain ⟨x, y, h1, h2, h3⟩ := segP_succ h
    obtain ⟨q, q1, q2⟩ := segP_sum h1
    refine ⟨fun k => if k = f + n then y else q k, fun i hi => ?_, ?_⟩
    · dsimp only
      by_cases e : i = n
      · subst e
        rw [if_pos rfl]
        exact h2
      · rw [if_neg (by omega)]
        exact q1 i (by omega)
    · show s = sumN (fun i => if f + i = f + n then y else q (f + i)) n + (if f + n = f + n then y else q (f + n))
      rw [if_pos rfl, sumN_congr (f' := fun i => q (f + i)) n fun i hi => if_neg (by omega), ← q2]
      exact h3
open Classical in
/-- some set of lit days costs no more than the row tells -/
theorem set_of_row {g : Good} {lights row : Nat → Int} {M : Nat} (h : IsRow g lights row M) (hM : M ≤ g.days.length) (hl : ∀ b, 0 ≤ lights b) (N : NonNegW g.days) : ∀ n, n ≤ M → ∃ (S : Nat → Prop) (p : Nat → Int) (c : Int), SetC g lights S n p c ∧ c ≤ row n := by
  intro n
  induction n using Nat.strongRecOn with
  | ind n ih =>
    intro hn
    cases n with
    | zero => exact ⟨fun _ => False, fun _ => 0, 0, ⟨fun k hk => by omega, rfl⟩, by rw [h.zero]; exact Int.le_refl 0⟩
    | succ m =>
      rcases h.some m (by omega) with ⟨b, f, s, hb, hf, hs, hv⟩ | ⟨⟨d, hd, hw⟩, hv⟩
      · obtain ⟨S, p, c, hc, hle⟩ := ih f (by omega) (by omega)
        obtain ⟨q, q1, q2⟩ := segP_sum hs
        let S' : Nat → Prop := fun x => (x < f ∧ S x) ∨ x = b
        have ex : ∀ k, ∃ z, k < m + 1 → wantN g k ≠ 0 → MinP g S' (m + 1) k z := by
          intro k
          by_cases hk : k < m + 1 ∧ wantN g k ≠ 0
          · have : ∃ z, MinP g S' (m + 1) k z := exists_min (m + 1) (by
              by_cases hkf : k < f
              · obtain ⟨b', h1, h2, h3⟩ := (hc.min k hkf hk.2).ex
                exact ⟨b', _, by omega, .inl ⟨h1, h2⟩, h3⟩
              · have e := q1 (k - f) (by omega)
                rw [show f + (k - f) = k by omega] at e
                rcases wantP_inv e with ⟨e1, _⟩ | ⟨y, e1, _⟩
                · exact absurd e1 hk.2
                · exact ⟨b, y, by omega, .inr rfl, e1⟩)
            obtain ⟨z, hz⟩ := this
            exact ⟨z, fun _ _ => hz⟩
          · exact ⟨0, fun h1 h2 => absurd ⟨h1, h2⟩ hk⟩
        let p' : Nat → Int := fun k => choose (ex k)
        have hp' : ∀ k, k < m + 1 → wantN g k ≠ 0 → MinP g S' (m + 1) k (p' k) := fun k => choose_spec (ex k)
        refine ⟨S', p', _, ⟨hp', rfl⟩, ?_⟩
        have spl := sumN_split (fun k => wantN g k * p' k) f (m + 1 - f)
        rw [show f + (m + 1 - f) = m + 1 by omega] at spl
        have w1 : sumN (fun k => wantN g k * p' k) f ≤ sumN (fun k => wantN g k * p k) f := sumN_le f fun k hk => by
          by_cases e : wantN g k = 0
          · rw [e, Int.zero_mul, Int.zero_mul]
            exact Int.le_refl 0
          · obtain ⟨b', h1, h2, h3⟩ := (hc.min k hk e).ex
            exact Int.mul_le_mul_of_nonneg_left ((hp' k (by omega) e).le b' (by omega) (.inl ⟨h1, h2⟩) _ h3) (wantN_nonneg N k)
        have w2 : sumN (fun i => wantN g (f + i) * p' (f + i)) (m + 1 - f) ≤ s := by
          rw [q2]
          refine sumN_le _ fun i hi => ?_
          have e := q1 i hi
          by_cases ew : wantN g (f + i) = 0
          · have := wantP_nonneg N e
            rw [ew, Int.zero_mul]
            exact this
          · rcases wantP_inv e with ⟨e1, _⟩ | ⟨y, e1, e2⟩
            · exact absurd e1 ew
            · rw [e2]
              exact Int.mul_le_mul_of_nonneg_left ((hp' (f + i) (by omega) ew).le b (by omega) (.inr rfl) _ e1) (wantN_nonneg N _)
        have l1 : litSum lights S' (m + 1) ≤ litSum lights S f + lights b := by
          have e1 : litSum lights S f = litSum lights (fun x => x < f ∧ S x) (m + 1) := by
            have e := sumN_split (fun x => if x < f ∧ S x then lights x else 0) f (m + 1 - f)
            rw [show f + (m + 1 - f) = m + 1 by omega, sumN_zero (f := fun i => if f + i < f ∧ S (f + i) then lights (f + i) else 0) _ fun i _ => if_neg fun z => by omega] at e
            unfold litSum
            rw [sumN_congr (f' := fun x => if x < f ∧ S x then lights x else 0) f fun k hk => by
              by_cases e : S k
              · rw [if_pos e, if_pos ⟨hk, e⟩]
              · rw [if_neg e, if_neg fun z => e z.2]]
            have e2 : ∀ A : Int, A + 0 = A := Int.add_zero
            rw [e2] at e
            rw [← e]
            refine sumN_congr _ fun k _ => ?_
            by_cases e : k < f ∧ S k
            · rw [if_pos e, if_pos e]
            · rw [if_neg e, if_neg e]
          have e2 := sumN_one (L := lights) (m + 1) (show b < m + 1 by omega)
          rw [e1, ← e2]
          unfold litSum
          rw [← sumN_add]
          refine sumN_le _ fun k hk => ?_
          have lk := hl k
          dsimp only
          by_cases e3 : k = b
          · rw [if_pos (show S' k from .inr e3), if_pos e3]
            split <;> omega
          · by_cases e4 : k < f ∧ S k
            · rw [if_pos (show S' k from .inl e4), if_pos e4, if_neg e3]
              omega
            · rw [if_neg (show ¬ S' k from fun z => z.elim e4 e3), if_neg e4, if_neg e3]
              omega
        have cc := hc.cost
        omega
      · obtain ⟨S, p, c, hc, hle⟩ := ih m (by omega) (by omega)
        have ew : wantN g m = 0 := by
          unfold wantN
          rw [hd]
          exact hw
        refine ⟨fun x => x < m ∧ S x, p, c, ⟨fun k hk wk => ?_, ?_⟩, by rw [hv]; exact hle⟩
        · have hkm : k < m := by
            by_cases e : k = m
            · subst e; exact absurd ew wk
            · omega
          have mk := hc.min k hkm wk
          obtain ⟨b, h1, h2, h3⟩ := mk.ex
          exact ⟨⟨b, by omega, ⟨h1, h2⟩, h3⟩, fun b' hb' hs y hy => mk.le b' hs.1 hs.2 y hy⟩
        · have e1 : litSum lights (fun x => x < m ∧ S x) (m + 1) = litSum lights S m := by
            have e0 : litSum lights (fun x => x < m ∧ S x) (m + 1) = litSum lights (fun x => x < m ∧ S x) m + 0 := by
              refine congrArg (litSum lights (fun x => x < m ∧ S x) m + ·) ?_
              exact if_neg fun z => absurd z.1 (by omega)
            rw [e0, Int.add_zero]
            refine sumN_congr _ fun k hk => ?_
            dsimp only
            by_cases e : S k
            · rw [if_pos e, if_pos ⟨hk, e⟩]
            · rw [if_neg e, if_neg fun z => e z.2]
          rw [e1, hc.cost]
          show _ = litSum lights S m + (sumN (fun k => wantN g k * p k) m + wantN g m * p m)
          rw [ew, Int.zero_mul, Int.add_zero]
theorem setC_uniq {g : Good} {lights : Nat → Int} {S : Nat → Prop} {n : Nat} {p p' : Nat → Int} {c c' : Int} (h : SetC g lights S n p c) (h' : SetC g lights S n p' c') : c = c' := by
  rw [h.cost, h'.cost, sumN_congr (f' := fun k => wantN g k * p' k) n fun k hk => ?_]
  by_cases e : wantN g k = 0
  · rw [e, Int.zero_mul, Int.zero_mul]
  · have a := h.min k hk e
    have b := h'.min k hk e
    obtain ⟨b1, h1, h2, h3⟩ := a.ex
    obtain ⟨b2, h4, h5, h6⟩ := b.ex
    have := a.le b2 h4 h5 _ h6
    have := b.le b1 h1 h2 _ h3
    rw [show p k = p' k by omega]
end Bk

namespace Bk
open PySem PySem.Spec PyProof.Rows L2
def rShr : R2 := fun x y H Q => ∃ (i : Int) (k : Nat), x = .int i ∧ y = .int (k : Int) ∧ Q (.int (i / 2 ^ k)) H
def rOdd : R2 := fun x y H Q => ∃ n : Nat, x = .int (n : Int) ∧ y = .int 1 ∧ Q (.int ((n % 2 : Nat) : Int)) H
theorem op_shrK {X : Cx} : OpR X (binaryOp .RShift) rShr := op_shrN
theorem op_oddK {X : Cx} : OpR X (binaryOp .BitAnd) rOdd := op_odd
theorem rShr_i {i j : Int} {H : Hp} {Q : VK} : rShr (.int i) (.int j) H Q = ∃ k : Nat, j = (k : Int) ∧ Q (.int (i / 2 ^ k)) H := propext ⟨fun ⟨_, k, e1, e2, h⟩ => by cases e1; cases e2; exact ⟨k, rfl, h⟩, fun ⟨k, e, h⟩ => ⟨i, k, rfl, by rw [e], h⟩⟩
theorem rOdd_i {i : Int} {H : Hp} {Q : VK} : rOdd (.int i) (.int 1) H Q = ∃ n : Nat, i = (n : Int) ∧ Q (.int ((n % 2 : Nat) : Int)) H := propext ⟨fun ⟨n, e1, e2, h⟩ => by cases e1; exact ⟨n, rfl, h⟩, fun ⟨n, e, h⟩ => ⟨n, by rw [e], rfl, h⟩⟩
def litL (S : Nat → Bool) (n : Nat) : List Nat := (List.range n).filter S
def inS (S : Nat → Bool) (b : Nat) : Prop := S b = true
theorem litL_mem {S : Nat → Bool} {n b : Nat} : b ∈ litL S n ↔ b < n ∧ inS S b := by
  unfold litL inS
  rw [List.mem_filter, List.mem_range]
theorem litL_length (S : Nat → Bool) (n : Nat) : (litL S n).length ≤ n := by
  have : ((List.range n).filter S).length ≤ (List.range n).length := List.length_filter_le ..
  rw [List.length_range] at this
  exact this
theorem sum_lit (L : Nat → Int) (S : Nat → Bool) : ∀ n, ((litL S n).map L).sum = litSum L (inS S) n
  | 0 => rfl
  | n + 1 => by
    have ih := sum_lit L S n
    have e : litSum L (inS S) (n + 1) = litSum L (inS S) n + (if S n = true then L n else 0) := by
      refine congrArg (litSum L (inS S) n + ·) ?_
      unfold inS
      by_cases h : S n = true
      · rw [if_pos h]; exact if_pos h
      · rw [if_neg h]; exact if_neg h
    rw [e, ← ih]
    unfold litL
    rw [List.range_succ, List.filter_append, List.map_append, sum_append']
    congr 1
    by_cases h : S n = true
    · rw [if_pos h]
      simp [h]
    · rw [if_neg h]
      simp [h]
theorem minP_of {g : Good} {S : Nat → Bool} {n k : Nat} {z : Int} (h : z ∈ ((litL S n).map fun b => loafP g b k).filterMap id) (hle : ∀ y, y ∈ ((litL S n).map fun b => loafP g b k).filterMap id → z ≤ y) : MinP g (inS S) n k z := by
  have mem : ∀ y, y ∈ ((litL S n).map fun b => loafP g b k).filterMap id ↔ ∃ b, b < n ∧ inS S b ∧ loafP g b k = some y := by
    intro y
    rw [List.mem_filterMap]
    constructor
    · rintro ⟨o, ho, e⟩
      obtain ⟨b, hb, rfl⟩ := List.mem_map.mp ho
      exact ⟨b, (litL_mem.mp hb).1, (litL_mem.mp hb).2, e⟩
    · rintro ⟨b, h1, h2, h3⟩
      exact ⟨_, List.mem_map.mpr ⟨b, litL_mem.mpr ⟨h1, h2⟩, rfl⟩, h3⟩
  exact ⟨(mem z).mp h, fun b hb hs y hy => hle y ((mem y).mpr ⟨b, hb, hs, hy⟩)⟩
theorem no_minP {g : Good} {S : Nat → Bool} {n k : Nat} {z : Int} (h : ((litL S n).map fun b => loafP g b k).filterMap id = []) (m : MinP g (inS S) n k z) : False := by
  obtain ⟨b, h1, h2, h3⟩ := m.ex
  have : z ∈ ((litL S n).map fun b => loafP g b k).filterMap id := List.mem_filterMap.mpr ⟨_, List.mem_map.mpr ⟨b, litL_mem.mpr ⟨h1, h2⟩, rfl⟩, h3⟩
  rw [h] at this
  cases this
/-- ints == [] -/
theorem eq_nil_ints {K : PySem.W.Frag} {H : Hp} {a b : Addr} {ns : List Int} {Q : VK} (h1 : SqL K H a (ns.map V.int)) (h3 : SqL K H b []) (q : Q (.bl (decide (ns = []))) H) : rEqD K (.ref a) (.ref b) H Q := by
  refine ⟨_, .list [], .lst h1 (dp_ints ns), .lst h3 .nil, shaped_ints ns, by simp [SeqAt.shaped, PyData.canLay0, PyData.canLayAll0, PyData.depth, PyData.depthAll], ?_⟩
  cases ns with
  | nil => exact q
  | cons d r => exact q
def bitS (num b : Nat) : Bool := decide (num / 2 ^ b % 2 = 1)
theorem bits_ex : ∀ (n : Nat) (S : Nat → Prop), ∃ num, num < 2 ^ n ∧ ∀ b, b < n → (inS (bitS num) b ↔ S b)
  | 0, S => ⟨0, by decide, fun b hb => by omega⟩
  | n + 1, S => by
    obtain ⟨num, h1, h2⟩ := bits_ex n fun b => S (b + 1)
    have key : ∀ e : Nat, e < 2 → ∀ b, inS (bitS (e + 2 * num)) b ↔ (b = 0 ∧ e = 1) ∨ (0 < b ∧ inS (bitS num) (b - 1)) := by
      intro e he b
      unfold inS bitS
      simp only [decide_eq_true_eq]
      cases b with
      | zero =>
        rw [Nat.pow_zero, Nat.div_one]
        omega
      | succ b =>
        rw [show 2 ^ (b + 1) = 2 * 2 ^ b by rw [Nat.pow_succ, Nat.mul_comm], ← Nat.div_div_eq_div_mul, show (e + 2 * num) / 2 = num by omega, Nat.add_sub_cancel]
        constructor
        · intro h
          exact .inr ⟨Nat.succ_pos _, h⟩
        · rintro (⟨h, _⟩ | ⟨_, h⟩)
          · exact absurd h (Nat.succ_ne_zero _)
          · exact h
    by_cases h0 : S 0
    · refine ⟨1 + 2 * num, by rw [Nat.pow_succ]; omega, fun b hb => ?_⟩
      rw [key 1 (by decide)]
      cases b with
      | zero => exact ⟨fun _ => h0, fun _ => .inl ⟨rfl, rfl⟩⟩
      | succ b =>
        rw [Nat.add_sub_cancel, ← h2 b (by omega)]
        constructor
        · rintro (⟨h, _⟩ | ⟨_, h⟩)
          · exact absurd h (Nat.succ_ne_zero _)
          · exact h
        · intro h
          exact .inr ⟨Nat.succ_pos _, h⟩
    · refine ⟨0 + 2 * num, by rw [Nat.pow_succ]; omega, fun b hb => ?_⟩
      rw [key 0 (by decide)]
      cases b with
      | zero =>
        constructor
        · rintro (⟨_, h⟩ | ⟨h, _⟩)
          · exact absurd h (by decide)
          · exact absurd h (by decide)
        · intro h
          exact absurd h h0
      | succ b =>
        rw [Nat.add_sub_cancel, ← h2 b (by omega)]
        constructor
        · rintro (⟨h, _⟩ | ⟨_, h⟩)
          · exact absurd h (Nat.succ_ne_zero _)
          · exact h
        · intro h
          exact .inr ⟨Nat.succ_pos _, h⟩
theorem setC_congr {g : Good} {lights : Nat → Int} {S S' : Nat → Prop} {n : Nat} {p : Nat → Int} {c : Int} (e : ∀ b, b < n → (S b ↔ S' b)) (h : SetC g lights S n p c) : SetC g lights S' n p c := by
  refine ⟨fun k hk wk => ?_, ?_⟩
  · have m := h.min k hk wk
    obtain ⟨b, h1, h2, h3⟩ := m.ex
    exact ⟨⟨b, h1, (e b h1).mp h2, h3⟩, fun b' hb' hs y hy => m.le b' hb' ((e b' hb').mpr hs) y hy⟩
  · rw [h.cost]
    congr 1
    unfold litSum
    refine sumN_congr n fun b hb => ?_
    by_cases h1 : S b
    · rw [if_pos h1, if_pos ((e b hb).mp h1)]
    · rw [if_neg h1, if_neg fun z => h1 ((e b hb).mpr z)]
/-- what the best of the first so many sets is -/
structure Best (g : Good) (lights : Nat → Int) (n i : Nat) (o : Option Int) : Prop where
  from_ : ∀ c, o = some c → ∃ S p, SetC g lights S n p c
  upto : ∀ num, num < i → num < 2 ^ n → ∀ p c, SetC g lights (inS (bitS num)) n p c → ∃ c0, o = some c0 ∧ c0 ≤ c
theorem Best.done {g : Good} {lights row : Nat → Int} {n i M : Nat} {o : Option Int} (h : Best g lights n i o) (hi : 2 ^ n ≤ i) (hR : IsRow g lights row M) (hn : n ≤ M) (hM : M ≤ g.days.length) (hl : ∀ b, 0 ≤ lights b) (N : NonNegW g.days) (hlf : ∀ l, g.life = some l → 0 ≤ l) : o = some (row n) := by
  obtain ⟨S, p, c, hc, hle⟩ := set_of_row hR hM hl N n hn
  obtain ⟨num, h1, h2⟩ := bits_ex n S
  obtain ⟨c0, rfl, hc0⟩ := h.upto num (by omega) h1 p c (setC_congr (fun b hb => (h2 b hb).symm) hc)
  obtain ⟨S', p', h'⟩ := h.from_ c0 rfl
  have := row_le_set hR hM hl N hlf n hn S' p' c0 h'
  congr 1
  omega
theorem rSetL_r {p : Addr} {k : Int} {v : V} {H : Hp} {Q : Hp → Prop} : rSetL (.ref p) (.int k) v H Q = ∃ xs j, H p = some (.lst xs) ∧ ixN xs.length k = some j ∧ Q (upd H p (.lst (xs.set j v))) := propext ⟨fun ⟨_, xs, _, j, e1, e2, h⟩ => by cases e1; cases e2; exact ⟨xs, j, h⟩, fun ⟨xs, j, h⟩ => ⟨p, xs, k, j, rfl, rfl, h⟩⟩
theorem due_row {g : Good} {ls rs : List Int} {os : List (Option Int)} (hb : ∀ j o, os[j]? = some o → Best g (rowF ls) j 64 o) (hl : os.length = ls.length + 1) (h6 : ls.length ≤ 6) (hg : g.days.length = ls.length) (hR : IsRow g (rowF ls) (rowF rs) ls.length) (hrl : rs.length = ls.length + 1) (hn : ∀ b, 0 ≤ rowF ls b) (N : NonNegW g.days) (hlf : ∀ l, g.life = some l → 0 ≤ l) : os.map optV = rs.map V.int := by
  apply List.ext_getElem?
  intro j
  by_cases hj : j < ls.length + 1
  · have e := List.getElem?_eq_getElem (show j < os.length by omega)
    have b := hb j _ e
    have hp : 2 ^ j ≤ 64 := Nat.pow_le_pow_right (by decide) (show j ≤ 6 by omega)
    have k := b.done hp hR (by omega) (by omega) hn N hlf
    rw [List.getElem?_map, e, k, rowF_get (by omega)]
    rfl
  · rw [List.getElem?_eq_none (by rw [List.length_map]; omega), List.getElem?_eq_none (by rw [List.length_map]; omega)]
end Bk

namespace Bk
open PySem PySem.Spec PyProof.Rows L2
/-! ### the row of least costs where wants may be baked on any of all days, and its steps as prices -/
structure IsAny (g : Good) (lights ar : Nat → Int) (c n : Nat) : Prop where
  zero : ar 0 = 0
  unw : ∀ m, m < n → wantN g m = 0 → ar (m + 1) = ar m
  some : ∀ m, m < n → wantN g m ≠ 0 → ChC ar lights (wantP g) c m (ar (m + 1))
  least : ∀ m, m < n → wantN g m ≠ 0 → ∀ v, ChC ar lights (wantP g) c m v → ar (m + 1) ≤ v
theorem wantN_at {g : Good} {k : Nat} {d : Day} (h : g.days[k]? = some d) : wantN g k = d.want := by
  unfold wantN
  rw [h]
theorem wantP_unw {g : Good} {b k : Nat} (hk : k < g.days.length) (h : wantN g k = 0) : wantP g b k = some 0 := by
  have e := wantP_of (g := g) (b := b) (k := k) (z := 0) hk fun z => absurd h z
  rw [e, h, Int.zero_mul]
theorem any_lets {g : Good} {lights ar : Nat → Int} {c n : Nat} (h : IsAny g lights ar c n) (hn : n ≤ g.days.length) (hl : ∀ b, 0 ≤ lights b) {b f : Nat} (hb : b < c) : ∀ (m : Nat) (s : Int), f + m ≤ n → segP (wantP g b) f m = some s → ar (f + m) ≤ ar f + lights b + s
  | 0, s, _, hs => by
    rw [segP_zero] at hs
    have e := Option.some.inj hs
    have := hl b
    rw [Nat.add_zero]
    omega
  | m + 1, s, hm, hs => by
    by_cases hw : wantN g (f + m) = 0
    · obtain ⟨x, y, h1, h2, h3⟩ := segP_succ hs
      have ih := any_lets h hn hl hb m x (by omega) h1
      rw [wantP_unw (by omega) hw] at h2
      have e2 := Option.some.inj h2
      have e3 := h.unw (f + m) (by omega) hw
      rw [show f + (m + 1) = f + m + 1 by omega, e3]
      omega
    · exact h.least (f + m) (by omega) hw _ ⟨b, f, s, hb, by omega, by rw [show f + m + 1 - f = m + 1 by omega]; exact hs, rfl⟩
theorem any_le_row {g : Good} {lights ar row : Nat → Int} {c n : Nat} (h : IsAny g lights ar c n) (hr : IsRow g lights row n) (hc : n ≤ c) (hn : n ≤ g.days.length) (hl : ∀ b, 0 ≤ lights b) : ∀ m, m ≤ n → ar m ≤ row m := by
  intro m
  induction m using Nat.strongRecOn with
  | ind m ih =>
    intro hm
    cases m with
    | zero => rw [h.zero, hr.zero]; exact Int.le_refl 0
    | succ m =>
      rcases hr.some m (by omega) with ⟨b, f, s, hb, hf, hs, hv⟩ | ⟨⟨d, hd, hw⟩, hv⟩
      · have a := any_lets h hn hl (show b < c by omega) (m + 1 - f) s (by omega) hs
        rw [show f + (m + 1 - f) = m + 1 by omega] at a
        have := ih f (by omega) (by omega)
        omega
      · have e := h.unw m (by omega) ((wantN_at hd).trans hw)
        have := ih m (by omega) (by omega)
        omega
/-- lit days and prices of loaves by which the first m days' wants cost no more than v -/
structure Cov (g : Good) (lights : Nat → Int) (c m : Nat) (S : Nat → Prop) (p : Nat → Int) (v : Int) : Prop where
  ex : ∀ k, k < m → wantN g k ≠ 0 → ∃ b, b < c ∧ S b ∧ loafP g b k = some (p k)
  le : litSum lights S c + sumN (fun k => wantN g k * p k) m ≤ v
theorem litSum_add {lights : Nat → Int} (hl : ∀ b, 0 ≤ lights b) {S : Nat → Prop} {b c : Nat} (hb : b < c) : litSum lights (fun x => S x ∨ x = b) c ≤ litSum lights S c + lights b := by
  have e2 := sumN_one (L := lights) c hb
  rw [← e2]
  unfold litSum
  rw [← sumN_add]
  refine sumN_le _ fun k hk => ?_
  have lk := hl k
  dsimp only
  by_cases e3 : k = b
  · rw [if_pos (show S k ∨ k = b from .inr e3), if_pos e3]
    split <;> omega
  · by_cases e4 : S k
    · rw [if_pos (show S k ∨ k = b from .inl e4), if_pos e4, if_neg e3]
      omega
    · rw [if_neg (show ¬ (S k ∨ k = b) from fun z => z.elim e4 e3), if_neg e4, if_neg e3]
      omega
theorem any_cov {g : Good} {lights ar : Nat → Int} {c n : Nat} (h : IsAny g lights ar c n) (hl : ∀ b, 0 ≤ lights b) (N : NonNegW g.days) : ∀ m, m ≤ n → ∃ (S : Nat → Prop) (p : Nat → Int), Cov g lights c m S p (ar m) := by
  intro m
  induction m using Nat.strongRecOn with
  | ind m ih =>
    intro hm
    cases m with
    | zero =>
      refine ⟨fun _ => False, fun _ => 0, ⟨fun k hk => by omega, ?_⟩⟩
      rw [h.zero]
      have e : litSum lights (fun _ => False) c = 0 := by
        unfold litSum
        exact sumN_zero c fun k _ => if_neg id
      rw [e]
      exact Int.le_refl 0
    | succ m =>
      by_cases hw : wantN g m = 0
      · obtain ⟨S, p, hc⟩ := ih m (by omega) (by omega)
        refine ⟨S, p, ⟨fun k hk wk => hc.ex k ?_ wk, ?_⟩⟩
        · by_cases e : k = m
          · subst e; exact absurd hw wk
          · omega
        · have e := h.unw m (by omega) hw
          have le := hc.le
          show litSum lights S c + (sumN (fun k => wantN g k * p k) m + wantN g m * p m) ≤ _
          rw [hw, Int.zero_mul, Int.add_zero, e]
          exact le
      · obtain ⟨b, f, s, hb, hf, hs, hv⟩ := h.some m (by omega) hw
        obtain ⟨S, p, hc⟩ := ih f (by omega) (by omega)
        obtain ⟨q, q1, q2⟩ := segP_sum hs
        have ey : ∀ k, ∃ y : Int, f ≤ k → k < m + 1 → wantN g k ≠ 0 → loafP g b k = some y ∧ q k = wantN g k * y := by
          intro k
          by_cases hk : f ≤ k ∧ k < m + 1 ∧ wantN g k ≠ 0
          · have e := q1 (k - f) (by omega)
            rw [show f + (k - f) = k by omega] at e
            rcases wantP_inv e with ⟨e1, _⟩ | ⟨y, e1, e2⟩
            · exact absurd e1 hk.2.2
            · exact ⟨y, fun _ _ _ => ⟨e1, e2⟩⟩
          · exact ⟨0, fun h1 h2 h3 => absurd ⟨h1, h2, h3⟩ hk⟩
        let py : Nat → Int := fun k => Classical.choose (ey k)
        have hpy : ∀ k, f ≤ k → k < m + 1 → wantN g k ≠ 0 → loafP g b k = some (py k) ∧ q k = wantN g k * py k := fun k => Classical.choose_spec (ey k)
        refine ⟨fun x => S x ∨ x = b, fun k => if k < f then p k else py k, ⟨fun k hk wk => ?_, ?_⟩⟩
        · by_cases hkf : k < f
          · obtain ⟨b', h1, h2, h3⟩ := hc.ex k hkf wk
            exact ⟨b', h1, .inl h2, by rw [if_pos hkf]; exact h3⟩
          · exact ⟨b, hb, .inr rfl, by rw [if_neg hkf]; exact (hpy k (by omega) hk wk).1⟩
        · have l1 := litSum_add hl (S := S) hb
          have spl := sumN_split (fun k => wantN g k * (if k < f then p k else py k)) f (m + 1 - f)
          rw [show f + (m + 1 - f) = m + 1 by omega] at spl
          have w1 : sumN (fun k => wantN g k * (if k < f then p k else py k)) f = sumN (fun k => wantN g k * p k) f := sumN_congr f fun k hk => by
            rw [if_pos hk]
          have w2 : sumN (fun i => wantN g (f + i) * (if f + i < f then p (f + i) else py (f + i))) (m + 1 - f) ≤ s := by
            rw [q2]
            refine sumN_le _ fun i hi => ?_
            rw [if_neg (by omega)]
            by_cases ew : wantN g (f + i) = 0
            · rw [ew, Int.zero_mul]
              exact wantP_nonneg N (q1 i hi)
            · rw [(hpy (f + i) (by omega) (by omega) ew).2]
              exact Int.le_refl _
          have le := hc.le
          omega
/-- a cover of all days costs no less than the row tells -/
theorem row_le_cov {g : Good} {lights row : Nat → Int} {n : Nat} (hr : IsRow g lights row n) (hn : n ≤ g.days.length) (hl : ∀ b, 0 ≤ lights b) (N : NonNegW g.days) (hlf : ∀ l, g.life = some l → 0 ≤ l) {S : Nat → Prop} {p : Nat → Int} {v : Int} (h : Cov g lights n n S p v) : row n ≤ v := by
  have ex : ∀ k, ∃ z, k < n → wantN g k ≠ 0 → MinP g S n k z := by
    intro k
    by_cases hk : k < n ∧ wantN g k ≠ 0
    · obtain ⟨b, h1, h2, h3⟩ := h.ex k hk.1 hk.2
      obtain ⟨z, hz⟩ := exists_min (g := g) (S := S) (k := k) n ⟨b, _, h1, h2, h3⟩
      exact ⟨z, fun _ _ => hz⟩
    · exact ⟨0, fun h1 h2 => absurd ⟨h1, h2⟩ hk⟩
  let p' : Nat → Int := fun k => Classical.choose (ex k)
  have hp' : ∀ k, k < n → wantN g k ≠ 0 → MinP g S n k (p' k) := fun k => Classical.choose_spec (ex k)
  have a := row_le_set hr hn hl N hlf n (Nat.le_refl n) S p' _ ⟨hp', rfl⟩
  have w : sumN (fun k => wantN g k * p' k) n ≤ sumN (fun k => wantN g k * p k) n := sumN_le n fun k hk => by
    by_cases e : wantN g k = 0
    · rw [e, Int.zero_mul, Int.zero_mul]
      exact Int.le_refl 0
    · obtain ⟨b, h1, h2, h3⟩ := h.ex k hk e
      exact Int.mul_le_mul_of_nonneg_left ((hp' k hk e).le b h1 h2 _ h3) (wantN_nonneg N k)
  have le := h.le
  omega
theorem any_eq_row {g : Good} {lights ar row : Nat → Int} {n : Nat} (h : IsAny g lights ar n n) (hr : IsRow g lights row n) (hn : n ≤ g.days.length) (hl : ∀ b, 0 ≤ lights b) (N : NonNegW g.days) (hlf : ∀ l, g.life = some l → 0 ≤ l) : ar n = row n := by
  have a := any_le_row h hr (Nat.le_refl n) hn hl n (Nat.le_refl n)
  obtain ⟨S, p, hc⟩ := any_cov h hl N n (Nat.le_refl n)
  have b := row_le_cov hr hn hl N hlf hc
  omega
/-! ### prices that are let by -/
/-- by the document's words: whatever day of baking, whatever stretch -/
def Lets (g : Good) (lights pr : Nat → Int) (n : Nat) : Prop := ∀ b f m s, b < n → f + m ≤ n → segP (wantP g b) f m = some s → sumN (fun i => pr (f + i)) m ≤ lights b + s
theorem sumN_tele (r : Nat → Int) (f : Nat) : ∀ m, sumN (fun i => r (f + i + 1) - r (f + i)) m = r (f + m) - r f
  | 0 => by show (0 : Int) = r (f + 0) - r f; rw [Nat.add_zero]; omega
  | m + 1 => by
    show sumN (fun i => r (f + i + 1) - r (f + i)) m + (r (f + m + 1) - r (f + m)) = _
    rw [sumN_tele r f m, show f + (m + 1) = f + m + 1 by omega]
    omega
theorem any_prices {g : Good} {lights ar : Nat → Int} {n : Nat} (h : IsAny g lights ar n n) (hn : n ≤ g.days.length) (hl : ∀ b, 0 ≤ lights b) : Lets g lights (fun k => ar (k + 1) - ar k) n := by
  intro b f m s hb hm hs
  have a := any_lets h hn hl hb m s hm hs
  have e := sumN_tele ar f m
  show sumN (fun i => ar (f + i + 1) - ar (f + i)) m ≤ _
  rw [e]
  omega
end Bk

namespace Bk
open PySem PySem.Spec PyProof.Rows L2
/-! ### lists of larger ints, shown -/
theorem log40 {n : Nat} (h : n < 10 ^ 40) : n.log2 < 140 := by
  by_cases h0 : n = 0
  · subst h0
    decide
  · exact (Nat.log2_lt h0).mpr (Nat.lt_of_lt_of_le h (by decide))
theorem ints_facts : ∀ ns : List Int, (∀ z ∈ ns, z.natAbs < 10 ^ 40) → PyData.hasDictAll (ns.map PyData.int) = false ∧ PyData.showableAll (ns.map PyData.int) = true ∧ PyData.leavesShortAll 41 (ns.map PyData.int) = true ∧ PyData.weightAll (ns.map PyData.int) ≤ ns.length * 141
  | [], _ => by simp only [List.map, PyData.hasDictAll, PyData.showableAll, PyData.leavesShortAll, PyData.weightAll, and_self, true_and, List.length_nil, Nat.zero_mul, Nat.le_refl]
  | n :: r, h => by
    obtain ⟨h1, h2, h3, h4⟩ := ints_facts r fun z hz => h z (List.mem_cons_of_mem _ hz)
    have hn := h n List.mem_cons_self
    have hg := log40 hn
    have e : (PyData.shown (.int n)).length ≤ 41 := by
      have e := int_text_length_le10 (k := 40) (by decide) hn
      show (Str.ofString (toString n)).length ≤ 41
      rw [PySem.ofString_length]
      exact e
    refine ⟨?_, ?_, ?_, ?_⟩
    · simp only [List.map, PyData.hasDictAll, PyData.hasDict, h1, Bool.or_self]
    · simp only [List.map, PyData.showableAll, PyData.showable, h2, Bool.and_true, decide_eq_true_eq]
      omega
    · simp only [List.map, PyData.leavesShortAll, PyData.leavesShort, h3, Bool.and_true, decide_eq_true_eq]
      exact e
    · simp only [List.map, PyData.weightAll, PyData.weight, List.length_cons, Nat.add_mul, Nat.one_mul]
      split <;> omega
theorem shows_ints {ns : List Int} (h : ∀ z ∈ ns, z.natAbs < 10 ^ 40) (hl : ns.length ≤ 1000) : Shows (.list (ns.map PyData.int)) := by
  obtain ⟨h1, h2, h3, h4⟩ := ints_facts ns h
  refine ⟨by simp only [PyData.hasDict, h1], by simp only [PyData.showable, h2], by simp only [PyData.depth, depth_ints]; decide, ?_⟩
  have e := PyData.shown_le 41 (by decide) (.list (ns.map PyData.int)) (by simp only [PyData.leavesShort, h3])
  have w : (PyData.list (ns.map PyData.int)).weight ≤ 141000 := by
    simp only [PyData.weight]
    have : ns.length * 141 ≤ 1000 * 141 := Nat.mul_le_mul_right _ hl
    omega
  rw [sizeLine_eq]
  have : (41 + 2) * (PyData.list (ns.map PyData.int)).weight ≤ 43 * 141000 := Nat.mul_le_mul (by decide) w
  omega
/-! ### the row anywhere, number by number -/
theorem ChC.congr {row row' lights : Nat → Int} {w : Nat → Nat → Option Int} {c m : Nat} {v : Int} (e : ∀ f, f ≤ m → row f = row' f) (h : ChC row lights w c m v) : ChC row' lights w c m v := by
  obtain ⟨b, f, s, hb, hf, hs, hv⟩ := h
  exact ⟨b, f, s, hb, hf, hs, by rw [← e f hf]; exact hv⟩
theorem IsAny.init (g : Good) (lights : Nat → Int) (c : Nat) : IsAny g lights (rowF [0]) c 0 := ⟨rfl, fun m h => by omega, fun m h => by omega, fun m h => by omega⟩
theorem IsAny.snoc {g : Good} {lights : Nat → Int} {rs : List Int} {c n : Nat} {v : Int} (h : IsAny g lights (rowF rs) c n) (hl : rs.length = n + 1) (h0 : wantN g n = 0 → v = rowF rs n) (h1 : wantN g n ≠ 0 → ChC (rowF rs) lights (wantP g) c n v ∧ ∀ u, ChC (rowF rs) lights (wantP g) c n u → v ≤ u) :
    IsAny g lights (rowF (rs ++ [v])) c (n + 1) := by
  have e : ∀ f, f ≤ n → rowF rs f = rowF (rs ++ [v]) f := fun f hf => (rowF_snoc (by omega)).symm
  have e' : ∀ f, f ≤ n → rowF (rs ++ [v]) f = rowF rs f := fun f hf => rowF_snoc (by omega)
  have el : rowF (rs ++ [v]) (n + 1) = v := rowF_last hl
  refine ⟨by rw [e' 0 (by omega)]; exact h.zero, fun m hm hw => ?_, fun m hm hw => ?_, fun m hm hw u hu => ?_⟩
  · by_cases hlt : m < n
    · rw [e' (m + 1) (by omega), e' m (by omega)]
      exact h.unw m hlt hw
    · have : m = n := by omega
      subst this
      rw [el, e' m (by omega)]
      exact h0 hw
  · by_cases hlt : m < n
    · rw [e' (m + 1) (by omega)]
      exact (h.some m hlt hw).congr fun f hf => e f (by omega)
    · have : m = n := by omega
      subst this
      rw [el]
      exact (h1 hw).1.congr e
  · by_cases hlt : m < n
    · rw [e' (m + 1) (by omega)]
      exact h.least m hlt hw u (hu.congr fun f hf => e' f (by omega))
    · have : m = n := by omega
      subst this
      rw [el]
      exact (h1 hw).2 u (hu.congr e')
theorem IsAny.ext {g : Good} {lights ar ar' : Nat → Int} {c n : Nat} (h : IsAny g lights ar c n) (h' : IsAny g lights ar' c n) : ∀ m, m ≤ n → ar m = ar' m := by
  intro m
  induction m using Nat.strongRecOn with
  | ind m ih =>
    intro hm
    cases m with
    | zero => rw [h.zero, h'.zero]
    | succ m =>
      by_cases hw : wantN g m = 0
      · rw [h.unw m (by omega) hw, h'.unw m (by omega) hw]
        exact ih m (by omega) (by omega)
      · have e : ∀ f, f ≤ m → ar f = ar' f := fun f hf => ih f (by omega) (by omega)
        have a := h.least m (by omega) hw _ ((h'.some m (by omega) hw).congr fun f hf => (e f hf).symm)
        have b := h'.least m (by omega) hw _ ((h.some m (by omega) hw).congr e)
        omega
theorem any_bounds {g : Good} {lights ar : Nat → Int} {c n : Nat} (h : IsAny g lights ar c n) (hn : n ≤ g.days.length) (hc : n ≤ c) (hl : ∀ b, 0 ≤ lights b) (hu : ∀ b, lights b ≤ 1000000000) (hok : ∀ d ∈ g.days, dayB (dayD d) = true) (hlf : ∀ l, g.life = some l → 0 ≤ l) : ∀ m, m ≤ n → 0 ≤ ar m ∧ ar m ≤ (m : Int) * 2000000000000000000 := by
  have N := nonNegW_of hok
  intro m
  induction m using Nat.strongRecOn with
  | ind m ih =>
    intro hm
    cases m with
    | zero => rw [h.zero]; omega
    | succ m =>
      obtain ⟨i1, i2⟩ := ih m (by omega) (by omega)
      by_cases hw : wantN g m = 0
      · rw [h.unw m (by omega) hw]
        omega
      · have hd : g.days[m]? = some g.days[m] := List.getElem?_eq_getElem (by omega)
        have hdb := hok _ (List.mem_of_getElem? hd)
        generalize g.days[m] = d at hd hdb
        have a := h.least m (by omega) hw _ (own_chC (show m < c by omega) hd hlf)
        obtain ⟨b, f, s, hb, hf, hs, hv⟩ := h.some m (by omega) hw
        have j1 := (ih f (by omega) (by omega)).1
        have j2 := segP_nonneg (fun k z e => wantP_nonneg N e) hs
        have j3 := hl b
        have j4 := hu m
        simp only [dayD, dayB, Bool.and_eq_true] at hdb
        have k1 := hdb.1.1.1
        have k2 := hdb.1.1.2
        simp only [numD, Bool.and_eq_true, decide_eq_true_eq] at k1 k2
        have k3 : d.want * d.loaf ≤ 1000000000 * 1000000000 := Int.mul_le_mul k1.2 k2.2 k2.1 (by omega)
        omega
/-- the steps of the row anywhere, as told prices -/
structure IsPrices (g : Good) (lights : Nat → Int) (ps : List Int) (n : Nat) : Prop where
  len : ps.length = n
  row : ∃ ar, IsAny g lights ar n n ∧ ∀ k, k < n → rowF ps k = ar (k + 1) - ar k
theorem IsPrices.ext {g : Good} {lights : Nat → Int} {ps ps' : List Int} {n : Nat} (h : IsPrices g lights ps n) (h' : IsPrices g lights ps' n) : ps = ps' := by
  obtain ⟨ar, h1, h2⟩ := h.row
  obtain ⟨ar', h3, h4⟩ := h'.row
  have e := h1.ext h3
  apply List.ext_getElem
  · rw [h.len, h'.len]
  · intro i hi hi'
    have a := h2 i (by rw [← h.len]; exact hi)
    have b := h4 i (by rw [← h.len]; exact hi)
    rw [e (i + 1) (by have := h.len; omega), e i (by have := h.len; omega)] at a
    unfold rowF at a b
    rw [List.getD_eq_getElem?_getD, List.getElem?_eq_getElem hi] at a
    rw [List.getD_eq_getElem?_getD, List.getElem?_eq_getElem hi'] at b
    simp only [Option.getD_some] at a b
    omega
theorem sum_rowF : ∀ ns : List Int, ns.sum = sumN (rowF ns) ns.length
  | ns => by
    have key : ∀ k, k ≤ ns.length → (ns.take k).sum = sumN (rowF ns) k := by
      intro k
      induction k with
      | zero => intro _; rfl
      | succ k ih =>
        intro hk
        have hlt : k < ns.length := hk
        show _ = sumN (rowF ns) k + rowF ns k
        rw [← ih (by omega), List.take_add_one, List.getElem?_eq_getElem hlt, Option.toList_some, sum_append', List.sum_cons, List.sum_nil, Int.add_zero]
        congr 1
        unfold rowF
        rw [List.getD_eq_getElem?_getD, List.getElem?_eq_getElem hlt]
        rfl
    have := key ns.length (Nat.le_refl _)
    rw [List.take_length] at this
    exact this
theorem IsPrices.facts {g : Good} {lights : Nat → Int} {ps : List Int} {n : Nat} (h : IsPrices g lights ps n) (hn : n ≤ g.days.length) (hl : ∀ b, 0 ≤ lights b) (hu : ∀ b, lights b ≤ 1000000000) (hok : ∀ d ∈ g.days, dayB (dayD d) = true) (hlf : ∀ l, g.life = some l → 0 ≤ l) :
    Lets g lights (rowF ps) n ∧ (∀ k, k < n → wantN g k = 0 → rowF ps k = 0) ∧ (∀ row, IsRow g lights row n → ps.sum = row n) ∧ (n ≤ 1000 → ∀ z ∈ ps, z.natAbs < 10 ^ 40) := by
  obtain ⟨ar, h1, h2⟩ := h.row
  have N := nonNegW_of hok
  refine ⟨fun b f m s hb hm hs => ?_, fun k hk hw => ?_, fun row hr => ?_, fun hn1 z hz => ?_⟩
  · have a := any_prices h1 hn hl b f m s hb hm hs
    rw [sumN_congr (f' := fun i => ar (f + i + 1) - ar (f + i)) m fun i hi => h2 (f + i) (by omega)]
    exact a
  · rw [h2 k hk, h1.unw k hk hw]
    omega
  · rw [sum_rowF, h.len, sumN_congr (f' := fun i => ar (0 + i + 1) - ar (0 + i)) n fun i hi => by rw [h2 i hi, Nat.zero_add], sumN_tele, Nat.zero_add, h1.zero, any_eq_row h1 hr hn hl N hlf]
    omega
  · obtain ⟨i, hi, e⟩ := List.mem_iff_getElem.mp hz
    have hin : i < n := by rw [← h.len]; exact hi
    have a := h2 i hin
    unfold rowF at a
    rw [List.getD_eq_getElem?_getD, List.getElem?_eq_getElem hi, e] at a
    simp only [Option.getD_some] at a
    obtain ⟨b1, b2⟩ := any_bounds h1 hn (Nat.le_refl n) hl hu hok hlf i (by omega)
    obtain ⟨b3, b4⟩ := any_bounds h1 hn (Nat.le_refl n) hl hu hok hlf (i + 1) (by omega)
    have c1 : (i : Int) * 2000000000000000000 ≤ 1000 * 2000000000000000000 := Int.mul_le_mul_of_nonneg_right (by omega) (by omega)
    have c2 : ((i + 1 : Nat) : Int) * 2000000000000000000 ≤ 1000 * 2000000000000000000 := Int.mul_le_mul_of_nonneg_right (by omega) (by omega)
    have : z.natAbs ≤ 2000000000000000000000 := by omega
    exact Nat.lt_of_le_of_lt this (by decide)
theorem cutV_from (xs : List V) (i : Nat) : cutV xs (some (i : Int)) none = xs.drop i := by
  unfold cutV
  rw [HT.sIx_nat]
  show (xs.drop (min i xs.length)).take (xs.length - min i xs.length) = xs.drop i
  by_cases hi : i ≤ xs.length
  · rw [Nat.min_eq_left hi, List.take_of_length_le (by rw [List.length_drop]; omega)]
  · rw [Nat.min_eq_right (by omega), List.drop_of_length_le (Nat.le_refl _), List.drop_of_length_le (show xs.length ≤ i by omega), List.take_nil]
end Bk

namespace Bk
open PySem PySem.Spec PyProof.Rows L2
/-! ### by how much the prices of stretches that end with a day are more than they cost -/
def kad (w : Nat → Option Int) (pr : Nat → Int) : Nat → Int
  | 0 => 0
  | k + 1 => match w k with
    | none => 0
    | some c => if kad w pr k + pr k - c > 0 then kad w pr k + pr k - c else 0
theorem kad_nonneg (w : Nat → Option Int) (pr : Nat → Int) : ∀ k, 0 ≤ kad w pr k
  | 0 => Int.le_refl 0
  | k + 1 => by
    unfold kad
    cases w k with
    | none => exact Int.le_refl 0
    | some c =>
      dsimp only
      split <;> omega
theorem kad_some {w : Nat → Option Int} {pr : Nat → Int} {k : Nat} {c : Int} (h : w k = some c) : kad w pr (k + 1) = if kad w pr k + pr k - c > 0 then kad w pr k + pr k - c else 0 := by
  show (match w k with
    | none => (0 : Int)
    | some c => if kad w pr k + pr k - c > 0 then kad w pr k + pr k - c else 0) = _
  rw [h]
theorem kad_none {w : Nat → Option Int} {pr : Nat → Int} {k : Nat} (h : w k = none) : kad w pr (k + 1) = 0 := by
  show (match w k with
    | none => (0 : Int)
    | some c => if kad w pr k + pr k - c > 0 then kad w pr k + pr k - c else 0) = _
  rw [h]
theorem kad_ge {w : Nat → Option Int} {pr : Nat → Int} {f : Nat} : ∀ (m : Nat) (s : Int), segP w f m = some s → sumN (fun i => pr (f + i)) m - s ≤ kad w pr (f + m)
  | 0, s, h => by
    rw [segP_zero] at h
    have e := Option.some.inj h
    have := kad_nonneg w pr (f + 0)
    show (0 : Int) - s ≤ _
    omega
  | m + 1, s, h => by
    obtain ⟨x, y, h1, h2, h3⟩ := segP_succ h
    have ih := kad_ge (pr := pr) m x h1
    have e := kad_some (pr := pr) h2
    show sumN (fun i => pr (f + i)) m + pr (f + m) - s ≤ kad w pr (f + m + 1)
    rw [e]
    split <;> omega
theorem kad_ex {w : Nat → Option Int} {pr : Nat → Int} : ∀ k, ∃ f m s, f + m = k ∧ segP w f m = some s ∧ kad w pr k = sumN (fun i => pr (f + i)) m - s
  | 0 => ⟨0, 0, 0, rfl, segP_zero _ _, rfl⟩
  | k + 1 => by
    have z : ∃ f m s, f + m = k + 1 ∧ segP w f m = some s ∧ (0 : Int) = sumN (fun i => pr (f + i)) m - s := ⟨k + 1, 0, 0, rfl, segP_zero _ _, rfl⟩
    cases hw : w k with
    | none =>
      rw [kad_none hw]
      exact z
    | some c =>
      rw [kad_some hw]
      split
      · obtain ⟨f, m, s, h1, h2, h3⟩ := kad_ex (w := w) (pr := pr) k
        refine ⟨f, m + 1, s + c, by omega, segP_add h2 (by rw [h1]; exact hw), ?_⟩
        show _ = sumN (fun i => pr (f + i)) m + pr (f + m) - (s + c)
        rw [h1, h3]
        omega
      · exact z
theorem lets_kad {g : Good} {lights pr : Nat → Int} {n : Nat} : (∀ b, b < n → ∀ k, k ≤ n → kad (wantP g b) pr k ≤ lights b) ↔ Lets g lights pr n := by
  constructor
  · intro h b f m s hb hm hs
    have a := kad_ge (pr := pr) m s hs
    have b' := h b hb (f + m) hm
    omega
  · intro h b hb k hk
    obtain ⟨f, m, s, h1, h2, h3⟩ := kad_ex (w := wantP g b) (pr := pr) k
    have a := h b f m s hb (by omega) h2
    omega
/-- prices of a good's first n days -/
def IsPr (g : Good) (n : Nat) (d : PyData) (ns : List Int) : Prop := d = .list (ns.map PyData.int) ∧ ns.length = n ∧ ∀ k, k < n → wantN g k = 0 → rowF ns k = 0
theorem all_wholeD : ∀ {ds : List PyData}, ds.all wholeD = true → ∃ ns : List Int, ds = ns.map PyData.int
  | [], _ => ⟨[], rfl⟩
  | d :: r, h => by
    rw [List.all_cons, Bool.and_eq_true] at h
    obtain ⟨ns, e⟩ := all_wholeD h.2
    cases d with
    | int i => exact ⟨i :: ns, by rw [e]; rfl⟩
    | _ => cases h.1
theorem wholeD_ints (ns : List Int) : (ns.map PyData.int).all wholeD = true := by
  rw [List.all_eq_true]
  intro x hx
  obtain ⟨i, _, rfl⟩ := List.mem_map.mp hx
  rfl
theorem pyint_inj {ns ms : List Int} (h : ns.map PyData.int = ms.map PyData.int) : ns = ms := by
  induction ns generalizing ms with
  | nil =>
    cases ms with
    | nil => rfl
    | cons m r => cases h
  | cons n r ih =>
    cases ms with
    | nil => cases h
    | cons m t =>
      injection h with h1 h2
      injection h1 with h1
      rw [h1, ih h2]
/-- the days without a want, and whether the prices there are 0 -/
def zeros (g : Good) (ns : List Int) (i : Nat) : List Bool := (List.range i).filterMap fun k => if wantN g k = 0 then some (decide (rowF ns k = 0)) else none
theorem zeros_succ (g : Good) (ns : List Int) (i : Nat) : zeros g ns (i + 1) = zeros g ns i ++ (if wantN g i = 0 then [decide (rowF ns i = 0)] else []) := by
  unfold zeros
  rw [List.range_succ, List.filterMap_append]
  congr 1
  by_cases h : wantN g i = 0
  · rw [if_pos h]
    simp [h]
  · rw [if_neg h]
    simp [h]
theorem zeros_length (g : Good) (ns : List Int) (i : Nat) : (zeros g ns i).length ≤ i := by
  have : (zeros g ns i).length ≤ (List.range i).length := List.length_filterMap_le ..
  rw [List.length_range] at this
  exact this
theorem zeros_all (g : Good) (ns : List Int) (n : Nat) : (zeros g ns n).all id = true ↔ ∀ k, k < n → wantN g k = 0 → rowF ns k = 0 := by
  rw [List.all_eq_true]
  constructor
  · intro h k hk hw
    have := h (decide (rowF ns k = 0)) (List.mem_filterMap.mpr ⟨k, List.mem_range.mpr hk, if_pos hw⟩)
    exact of_decide_eq_true this
  · intro h b hb
    obtain ⟨k, hk, e⟩ := List.mem_filterMap.mp hb
    by_cases hw : wantN g k = 0
    · rw [if_pos hw] at e
      cases e
      exact decide_eq_true (h k (List.mem_range.mp hk) hw)
    · rw [if_neg hw] at e
      cases e
end Bk

namespace Bk
open PySem PySem.Spec PyProof.Rows L2
/-! ### a block cut in two: what holds between the parts -/
section
variable {A1 A2 A3 A4 A5 A6 B : TS} {D : Ends} {σ : L2.St} {H : Hp} (Pm : L2.St → Hp → Prop)
theorem seq1 (hB : ∀ σ' H', Pm σ' H' → B D σ' H') (hA : ∀ N : L2.St → Hp → Prop, (∀ σ' H', Pm σ' H' → N σ' H') → A1 { D with nx := N } σ H) : tSeq A1 B D σ H := hA _ hB
theorem seq2 (hB : ∀ σ' H', Pm σ' H' → B D σ' H') (hA : ∀ N : L2.St → Hp → Prop, (∀ σ' H', Pm σ' H' → N σ' H') → tSeq A1 A2 { D with nx := N } σ H) : tSeq A1 (tSeq A2 B) D σ H := hA _ hB
theorem seq3 (hB : ∀ σ' H', Pm σ' H' → B D σ' H') (hA : ∀ N : L2.St → Hp → Prop, (∀ σ' H', Pm σ' H' → N σ' H') → tSeq A1 (tSeq A2 A3) { D with nx := N } σ H) : tSeq A1 (tSeq A2 (tSeq A3 B)) D σ H := hA _ hB
theorem seq4 (hB : ∀ σ' H', Pm σ' H' → B D σ' H') (hA : ∀ N : L2.St → Hp → Prop, (∀ σ' H', Pm σ' H' → N σ' H') → tSeq A1 (tSeq A2 (tSeq A3 A4)) { D with nx := N } σ H) : tSeq A1 (tSeq A2 (tSeq A3 (tSeq A4 B))) D σ H := hA _ hB
theorem seq5 (hB : ∀ σ' H', Pm σ' H' → B D σ' H') (hA : ∀ N : L2.St → Hp → Prop, (∀ σ' H', Pm σ' H' → N σ' H') → tSeq A1 (tSeq A2 (tSeq A3 (tSeq A4 A5))) { D with nx := N } σ H) : tSeq A1 (tSeq A2 (tSeq A3 (tSeq A4 (tSeq A5 B)))) D σ H := hA _ hB
theorem seq6 (hB : ∀ σ' H', Pm σ' H' → B D σ' H') (hA : ∀ N : L2.St → Hp → Prop, (∀ σ' H', Pm σ' H' → N σ' H') → tSeq A1 (tSeq A2 (tSeq A3 (tSeq A4 (tSeq A5 A6)))) { D with nx := N } σ H) : tSeq A1 (tSeq A2 (tSeq A3 (tSeq A4 (tSeq A5 (tSeq A6 B))))) D σ H := hA _ hB
end
theorem map_set_int (ns : List Int) (j : Nat) (v : Int) : (ns.map V.int).set j (V.int v) = (ns.set j v).map V.int := by rw [List.map_set]
theorem ixN_nat {n j : Nat} (h : j < n) : ixN n (j : Int) = some j := by
  unfold ixN
  rw [if_pos (by omega), if_pos (by omega)]
  rfl
theorem rowF_set {ns : List Int} {j k : Nat} {v : Int} (hk : k < ns.length) : rowF (ns.set j v) k = if j = k then v else rowF ns k := by
  unfold rowF
  rw [List.getD_eq_getElem?_getD, List.getD_eq_getElem?_getD, List.getElem?_set]
  by_cases e : j = k
  · subst e
    rw [if_pos rfl, if_pos hk, if_pos rfl]
    rfl
  · rw [if_neg e, if_neg e]
theorem mem_rowF {ns : List Int} {k : Nat} (hk : k < ns.length) : rowF ns k ∈ ns := by
  unfold rowF
  rw [List.getD_eq_getElem?_getD, List.getElem?_eq_getElem hk]
  exact List.getElem_mem hk
theorem set_bd {ns : List Int} {j : Nat} {v M : Int} (h : ∀ z ∈ ns, -M ≤ z ∧ z ≤ M) (hv : -M ≤ v ∧ v ≤ M) : ∀ z ∈ ns.set j v, -M ≤ z ∧ z ≤ M := by
  intro z hz
  rcases List.mem_or_eq_of_mem_set hz with e | e
  · exact h z e
  · rw [e]
    exact hv
theorem pick3 {a b c i : Int} (h0 : 0 ≤ i) (h1 : i < 3) : ∃ z : Int, atI [V.int a, V.int b, V.int c] i = some (.int z) ∧ (z = a ∨ z = b ∨ z = c) := by
  by_cases e0 : i = 0
  · subst e0
    exact ⟨a, atI_nat (j := 0) rfl, .inl rfl⟩
  · by_cases e1 : i = 1
    · subst e1
      exact ⟨b, atI_nat (j := 1) rfl, .inr (.inl rfl)⟩
    · rw [show i = 2 by omega]
      exact ⟨c, atI_nat (j := 2) rfl, .inr (.inr rfl)⟩
end Bk

namespace Bk
open PySem PySem.Spec PyProof.Rows L2
/-! ### 1 << k -/
def rOne : R2 := fun x y H Q => ∃ k : Nat, x = .int 1 ∧ y = .int (k : Int) ∧ k ≤ 134217727 ∧ Q (.int (2 ^ k)) H
theorem op_oneK {X : Cx} : OpR X (binaryOp .LShift) rOne := op_oneShl
theorem rOne_i {j : Int} {H : Hp} {Q : VK} : rOne (.int 1) (.int j) H Q = ∃ k : Nat, j = (k : Int) ∧ k ≤ 134217727 ∧ Q (.int (2 ^ k)) H := propext ⟨fun ⟨k, _, e2, h⟩ => by cases e2; exact ⟨k, rfl, h⟩, fun ⟨k, e, h⟩ => ⟨k, rfl, by rw [e], h⟩⟩
theorem rIsB_b {a b : Bool} {H : Hp} {Q : VK} : rIsB (.bl a) (.bl b) H Q = Q (.bl (decide (a = b))) H := propext ⟨fun ⟨_, _, e1, e2, h⟩ => by cases e1; cases e2; exact h, fun h => ⟨a, b, rfl, rfl, h⟩⟩
theorem rNotB_b {a b : Bool} {H : Hp} {Q : VK} : rNotB (.bl a) (.bl b) H Q = Q (.bl (!decide (a = b))) H := propext ⟨fun ⟨_, _, e1, e2, h⟩ => by cases e1; cases e2; exact h, fun h => ⟨a, b, rfl, rfl, h⟩⟩
/-! ### dicts whose keys are days -/
def keyN (ns : List Nat) : List Key := ns.map fun n => Sum.inl ((n : Nat) : Int)
theorem keyN_mem {ns : List Nat} {n : Nat} : (Sum.inl ((n : Nat) : Int) : Key) ∈ keyN ns ↔ n ∈ ns := by
  unfold keyN
  rw [List.mem_map]
  constructor
  · rintro ⟨m, hm, e⟩
    injection e with e
    rw [show n = m by omega]
    exact hm
  · intro h
    exact ⟨n, h, rfl⟩
theorem any_key {kvs : List (Key × V)} {k : Key} : (kvs.any fun kv => decide (kv.1 = k)) = true ↔ k ∈ kvs.map (·.1) := by
  rw [List.any_eq_true, List.mem_map]
  constructor
  · rintro ⟨kv, h1, h2⟩
    exact ⟨kv, h1, of_decide_eq_true h2⟩
  · rintro ⟨kv, h1, h2⟩
    exact ⟨kv, h1, decide_eq_true h2⟩
theorem keys_put_in {kvs : List (Key × V)} {k : Key} {v : V} (h : k ∈ kvs.map (·.1)) : (putK kvs k v).map (·.1) = kvs.map (·.1) := by
  unfold putK
  rw [if_pos (any_key.mpr h), List.map_map]
  apply List.map_congr_left
  intro kv _
  show (if kv.1 = k then (kv.1, v) else kv).1 = kv.1
  split <;> rfl
theorem keys_put_new {kvs : List (Key × V)} {k : Key} {v : V} (h : k ∉ kvs.map (·.1)) : (putK kvs k v).map (·.1) = kvs.map (·.1) ++ [k] := by
  unfold putK
  rw [if_neg (fun z => h (any_key.mp z)), List.map_append]
  rfl
def addN (ns : List Nat) (n : Nat) : List Nat := if n ∈ ns then ns else ns ++ [n]
theorem keyN_put {kvs : List (Key × V)} {ns : List Nat} {n : Nat} {v : V} (h : kvs.map (·.1) = keyN ns) : (putK kvs (Sum.inl (n : Int)) v).map (·.1) = keyN (addN ns n) := by
  unfold addN
  by_cases e : n ∈ ns
  · rw [keys_put_in (by rw [h]; exact keyN_mem.mpr e), h, if_pos e]
  · rw [keys_put_new (by rw [h]; exact fun z => e (keyN_mem.mp z)), h, if_neg e]
    unfold keyN
    rw [List.map_append]
    rfl
theorem addN_mem {ns : List Nat} {n m : Nat} : m ∈ addN ns n ↔ m ∈ ns ∨ m = n := by
  unfold addN
  split
  · rename_i h
    exact ⟨.inl, fun z => z.elim id fun e => by rw [e]; exact h⟩
  · rw [List.mem_append, List.mem_singleton]
theorem addN_nodup {ns : List Nat} {n : Nat} (h : ns.Nodup) : (addN ns n).Nodup := by
  unfold addN
  split
  · exact h
  · rename_i hn
    rw [List.nodup_append]
    refine ⟨h, by simp, fun a ha b hb => ?_⟩
    rw [List.mem_singleton.mp hb]
    intro e
    rw [e] at ha
    exact hn ha
/-- the lights of different days, summed -/
theorem litSum_nodup (L : Nat → Int) (n : Nat) : ∀ ns : List Nat, ns.Nodup → (∀ m ∈ ns, m < n) → (ns.map L).sum = litSum L (fun m => m ∈ ns) n
  | [], _, _ => by
    have e : litSum L (fun m => m ∈ ([] : List Nat)) n = 0 := by
      unfold litSum
      exact sumN_zero n fun k _ => if_neg (by simp)
    rw [e]
    rfl
  | b :: r, h, hb => by
    have ih := litSum_nodup L n r (List.nodup_cons.mp h).2 fun m hm => hb m (List.mem_cons_of_mem _ hm)
    have e2 := sumN_one (L := L) n (hb b List.mem_cons_self)
    rw [List.map_cons, List.sum_cons, ih, ← e2]
    unfold litSum
    rw [← sumN_add]
    refine sumN_congr _ fun k hk => ?_
    dsimp only
    by_cases e : k = b
    · subst e
      rw [if_pos rfl, if_neg (List.nodup_cons.mp h).1, if_pos List.mem_cons_self]
      omega
    · rw [if_neg e]
      by_cases e3 : k ∈ r
      · rw [if_pos e3, if_pos (List.mem_cons_of_mem _ e3)]
        omega
      · rw [if_neg e3, if_neg fun z => (List.mem_cons.mp z).elim e e3]
        omega
theorem nodup_len {n : Nat} {ns : List Nat} (h : ns.Nodup) (hb : ∀ m ∈ ns, m < n) : ns.length ≤ n := by
  have e := litSum_nodup (fun _ => 1) n ns h hb
  have e1 : (ns.map fun _ => (1 : Int)).sum = (ns.length : Int) := by
    clear e h hb
    induction ns with
    | nil => rfl
    | cons a r ih =>
      rw [List.map_cons, List.sum_cons, ih, List.length_cons]
      omega
  have e2 : litSum (fun _ => 1) (fun m => m ∈ ns) n ≤ (n : Int) := by
    have a : sumN (fun _ => (1 : Int)) n = (n : Int) := by
      clear e e1 h hb
      induction n with
      | zero => rfl
      | succ n ih =>
        show sumN (fun _ => (1 : Int)) n + 1 = _
        rw [ih]
        omega
    rw [← a]
    unfold litSum
    exact sumN_le n fun k _ => by dsimp only; split <;> omega
  omega
theorem litSum_congr {L : Nat → Int} {S S' : Nat → Prop} {n : Nat} (h : ∀ k, k < n → (S k ↔ S' k)) : litSum L S n = litSum L S' n := by
  unfold litSum
  refine sumN_congr _ fun k hk => ?_
  by_cases e : S k
  · rw [if_pos e, if_pos ((h k hk).mp e)]
  · rw [if_neg e, if_neg fun z => e ((h k hk).mpr z)]
/-- a permutation of days, as ints, is a list of days -/
theorem perm_days {ys : List Int} {ns : List Nat} (h : ys.Perm (ns.map fun n => ((n : Nat) : Int))) : ∃ ms : List Nat, ys = ms.map (fun n => ((n : Nat) : Int)) ∧ ms.Perm ns := by
  refine ⟨ys.map Int.toNat, ?_, ?_⟩
  · rw [List.map_map]
    have : ∀ y ∈ ys, ((Int.toNat y : Nat) : Int) = y := fun y hy => by
      obtain ⟨n, _, e⟩ := List.mem_map.mp (h.mem_iff.mp hy)
      omega
    have e : ys.map ((fun n => ((n : Nat) : Int)) ∘ Int.toNat) = ys.map id := List.map_congr_left fun y hy => this y hy
    rw [e, List.map_id]
  · have := h.map Int.toNat
    rw [List.map_map] at this
    have e : ns.map (Int.toNat ∘ fun n => ((n : Nat) : Int)) = ns := by
      have : ns.map (Int.toNat ∘ fun n => ((n : Nat) : Int)) = ns.map id := List.map_congr_left fun n _ => by show Int.toNat (n : Int) = n; omega
      rw [this, List.map_id]
    rw [e] at this
    exact this
/-- there is a row of least costs -/
theorem exists_min_int {P : Int → Prop} {lo : Int} (hlo : ∀ v, P v → lo ≤ v) (h : ∃ v, P v) : ∃ v, P v ∧ ∀ u, P u → v ≤ u := by
  obtain ⟨v, hv⟩ := h
  obtain ⟨n, hn, hmin⟩ := exists_least (P := fun n : Nat => P (lo + (n : Int))) ⟨(v - lo).toNat, by
    have := hlo v hv
    show P (lo + ((v - lo).toNat : Int))
    rw [show lo + ((v - lo).toNat : Int) = v by omega]
    exact hv⟩
  refine ⟨_, hn, fun u hu => ?_⟩
  have hl := hlo u hu
  by_cases e : lo + (n : Int) ≤ u
  · exact e
  · exfalso
    refine hmin (u - lo).toNat (by omega) ?_
    show P (lo + ((u - lo).toNat : Int))
    rw [show lo + ((u - lo).toNat : Int) = u by omega]
    exact hu
theorem row_exists (g : Good) (lights : Nat → Int) : ∀ (n : Nat), n ≤ g.days.length → (∀ l, g.life = some l → 0 ≤ l) → (∀ b, 0 ≤ lights b) → NonNegW g.days → ∃ row, IsRow g lights row n ∧ ∀ m, m ≤ n → 0 ≤ row m
  | 0, _, _, _, _ => ⟨fun _ => 0, ⟨rfl, fun m h => by omega, fun m h => by omega⟩, fun m _ => Int.le_refl 0⟩
  | n + 1, hn, hl, hp, N => by
    obtain ⟨row, hR, h0⟩ := row_exists g lights n (by omega) hl hp N
    have hd : g.days[n]? = some g.days[n] := List.getElem?_eq_getElem (by omega)
    have ch := own_choice (lights := lights) (row := row) hd hl
    have lo : ∀ v, Choice g lights row n v → 0 ≤ v := by
      rintro v (⟨b, f, s, hb, hf, hs, hv⟩ | ⟨_, hv⟩)
      · have a1 := h0 f hf
        have a2 := hp b
        have a3 := segP_nonneg (fun k z e => wantP_nonneg N e) hs
        omega
      · rw [hv]
        exact h0 n (Nat.le_refl n)
    obtain ⟨v, hv, hmin⟩ := exists_min_int lo ⟨_, ch⟩
    obtain ⟨row', e, el⟩ : ∃ row' : Nat → Int, (∀ f, f ≤ n → row' f = row f) ∧ row' (n + 1) = v := ⟨fun k => if k = n + 1 then v else row k, fun f hf => if_neg (by omega), if_pos rfl⟩
    refine ⟨row', ⟨?_, fun m hm => ?_, fun m hm u hu => ?_⟩, fun m hm => ?_⟩
    · rw [e 0 (by omega)]
      exact hR.zero
    · by_cases hmn : m = n
      · subst hmn
        rw [el]
        exact hv.congr fun f hf => (e f hf).symm
      · rw [e (m + 1) (by omega)]
        exact (hR.some m (by omega)).congr fun f hf => (e f (by omega)).symm
    · by_cases hmn : m = n
      · subst hmn
        rw [el]
        exact hmin u (hu.congr fun f hf => e f hf)
      · rw [e (m + 1) (by omega)]
        exact hR.least m (by omega) u (hu.congr fun f hf => e f (by omega))
    · by_cases hmn : m = n + 1
      · rw [hmn, el]
        exact lo v hv
      · rw [e m (by omega)]
        exact h0 m (by omega)
theorem rSetD_r {p : Addr} {k : Int} {v : V} {H : Hp} {Q : Hp → Prop} {kvs : List (Key × V)} (h : H p = some (.dK kvs)) (hl : kvs.length < sizeLine) (q : Q (upd H p (.dK (putK kvs (.inl k) v)))) : rSetD (.ref p) (.int k) v H Q := ⟨p, _, rfl, DPut.k (k := .inl k) h hl, q⟩
def rSorD : List V → Hp → VK → Prop := fun xs H Q => ∃ (a : Addr) (kvs : List (Key × V)) (ks : List Int), xs = [.ref a] ∧ Rd H a (.dK kvs) ∧ kvs.map (·.1) = ks.map Sum.inl ∧ ks.length < 64 ∧ ∀ (ys : List Int) (p : Addr), ys.Perm ks → ys.Pairwise (· ≤ ·) → H p = none → Q (.ref p) (upd H p (.lst (ys.map V.int)))
theorem cr_sorD {X : Cx} (hc : X.calm = true) : CallR X (.builtin "sorted") rSorD := call_sortedDI hc
theorem rSorD_r {p : Addr} {H : Hp} {Q : VK} : rSorD [.ref p] H Q = ∃ (kvs : List (Key × V)) (ks : List Int), Rd H p (.dK kvs) ∧ kvs.map (·.1) = ks.map Sum.inl ∧ ks.length < 64 ∧ ∀ (ys : List Int) (q : Addr), ys.Perm ks → ys.Pairwise (· ≤ ·) → H q = none → Q (.ref q) (upd H q (.lst (ys.map V.int))) :=
  propext ⟨fun ⟨_, kvs, ks, e, h⟩ => by cases e; exact ⟨kvs, ks, h⟩, fun ⟨kvs, ks, h⟩ => ⟨p, kvs, ks, rfl, h⟩⟩
end Bk

namespace Bk
open PySem PySem.Spec PyProof.Rows L2
/-! ### steady bakeries -/
structure Steady (g : Good) : Prop where
  nofine : ∀ d ∈ g.days, d.fine = none
  never : ∀ k d e, g.days[k]? = some d → g.days[k + 1]? = some e → e.loaf ≤ d.loaf + d.keep
theorem keepsL_zero (ds : List Day) (k : Nat) : keepsL ds k k = 0 := by
  unfold keepsL
  rw [Nat.sub_self]
  rfl
theorem keepsL_head {ds : List Day} {b k : Nat} {d : Day} (hb : ds[b]? = some d) (hk : b < k) : keepsL ds b k = d.keep + keepsL ds (b + 1) k := by
  unfold keepsL
  obtain ⟨hi, e⟩ := List.getElem?_eq_some_iff.mp hb
  rw [List.drop_eq_getElem_cons hi, e, show k - b = (k - (b + 1)) + 1 by omega, List.take_succ_cons, List.map_cons, List.sum_cons]
/-- a loaf baked later, for a day behind both, costs no more -/
theorem loaf_later {g : Good} (S : Steady g) {k : Nat} (hk : k < g.days.length) : ∀ (n b : Nat), b + n ≤ k → ∀ z, loafP g b k = some z → ∃ y, loafP g (b + n) k = some y ∧ y ≤ z
  | 0, b, _, z, h => ⟨z, h, Int.le_refl z⟩
  | n + 1, b, hn, z, h => by
    have hd : g.days[b]? = some g.days[b] := List.getElem?_eq_getElem (by omega)
    have he : g.days[b + 1]? = some g.days[b + 1] := List.getElem?_eq_getElem (by omega)
    have st := S.never b _ _ hd he
    generalize g.days[b] = d at hd st
    generalize g.days[b + 1] = e at he st
    have step : ∃ y, loafP g (b + 1) k = some y ∧ y ≤ z := by
      obtain ⟨x, hx, hxz⟩ := loafP_ext' hd h
      obtain ⟨hl, hkp⟩ := (ext_keep (show b ≤ k by omega)).mp hx
      have e2 : extP g (b + 1) k = some (keepsL g.days (b + 1) k) := (ext_keep (show b + 1 ≤ k by omega)).mpr ⟨fun l hl' => by have := hl l hl'; omega, rfl⟩
      refine ⟨e.loaf + keepsL g.days (b + 1) k, by rw [loafP_ext he, e2]; rfl, ?_⟩
      have := keepsL_head hd (show b < k by omega)
      omega
    obtain ⟨y, hy, hyz⟩ := step
    obtain ⟨y2, hy2, h2⟩ := loaf_later S hk n (b + 1) (by omega) y hy
    exact ⟨y2, by rw [show b + (n + 1) = b + 1 + n by omega]; exact hy2, by omega⟩
theorem want_later {g : Good} (S : Steady g) (N : NonNegW g.days) {b c k : Nat} (hk : k < g.days.length) (hbc : b ≤ c) (hck : c ≤ k) {z : Int} (h : wantP g b k = some z) : ∃ y, wantP g c k = some y ∧ y ≤ z := by
  by_cases hw : wantN g k = 0
  · rw [wantP_unw hk hw] at h ⊢
    exact ⟨_, h, Int.le_refl _⟩
  · rcases wantP_inv h with ⟨e, _⟩ | ⟨y, e1, e2⟩
    · exact absurd e hw
    · obtain ⟨y2, h1, h2⟩ := loaf_later S hk (c - b) b (by omega) y e1
      rw [show b + (c - b) = c by omega] at h1
      refine ⟨wantN g k * y2, wantP_of hk fun _ => h1, ?_⟩
      rw [e2]
      exact Int.mul_le_mul_of_nonneg_left h2 (wantN_nonneg N k)
theorem seg_later {g : Good} (S : Steady g) (N : NonNegW g.days) {b c f : Nat} (hbc : b ≤ c) (hcf : c ≤ f) : ∀ (m : Nat) (s : Int), f + m ≤ g.days.length → segP (wantP g b) f m = some s → ∃ t, segP (wantP g c) f m = some t ∧ t ≤ s
  | 0, s, _, h => by
    rw [segP_zero] at h
    exact ⟨0, segP_zero _ _, by have := Option.some.inj h; omega⟩
  | m + 1, s, hm, h => by
    obtain ⟨x, y, h1, h2, h3⟩ := segP_succ h
    obtain ⟨t, h4, h5⟩ := seg_later S N hbc hcf m x (by omega) h1
    obtain ⟨u, h6, h7⟩ := want_later S N (show f + m < g.days.length by omega) hbc (by omega) h2
    exact ⟨t + u, segP_add h4 h6, by omega⟩
theorem segP_split {w : Nat → Option Int} {f : Nat} : ∀ (n m : Nat) {s : Int}, segP w f (m + n) = some s → ∃ x y, segP w f m = some x ∧ segP w (f + m) n = some y ∧ s = x + y
  | 0, m, s, h => ⟨s, 0, h, segP_zero _ _, by omega⟩
  | n + 1, m, s, h => by
    obtain ⟨x, y, h1, h2, h3⟩ := segP_succ (show segP w f (m + n + 1) = some s from h)
    obtain ⟨u, v, h4, h5, h6⟩ := segP_split n m h1
    exact ⟨u, v + y, h4, segP_add h5 (by rw [show f + m + n = f + (m + n) by omega]; exact h2), by omega⟩
theorem segP_join {w : Nat → Option Int} {f : Nat} : ∀ (n m : Nat) {x y : Int}, segP w f m = some x → segP w (f + m) n = some y → segP w f (m + n) = some (x + y)
  | 0, m, x, y, h1, h2 => by
    rw [segP_zero] at h2
    have := Option.some.inj h2
    rw [Nat.add_zero, h1]
    congr 1
    omega
  | n + 1, m, x, y, h1, h2 => by
    obtain ⟨u, v, h3, h4, h5⟩ := segP_succ h2
    have := segP_add (segP_join n m h1 h3) (show w (f + (m + n)) = some v by rw [show f + (m + n) = f + m + n by omega]; exact h4)
    rw [show m + (n + 1) = m + n + 1 by omega, this]
    congr 1
    omega
/-- any last stretch may as well begin with the day it is baked on -/
theorem diag {g : Good} {lights row : Nat → Int} {n : Nat} (h : IsRow g lights row n) (hn : n ≤ g.days.length) (hl : ∀ b, 0 ≤ lights b) (N : NonNegW g.days) (S : Steady g) {m : Nat} (hm : m < n) : ∀ (f b : Nat) (s : Int), b ≤ m → f ≤ m → segP (wantP g b) f (m + 1 - f) = some s →
    ∃ d t, d ≤ m ∧ segP (wantP g d) d (m + 1 - d) = some t ∧ row d + lights d + t ≤ row f + lights b + s := by
  intro f
  induction f using Nat.strongRecOn with
  | ind f ih =>
    intro b s hb hf hs
    by_cases hbf : b = f
    · subst hbf
      exact ⟨b, s, hb, hs, Int.le_refl _⟩
    · by_cases hlt : f < b
      · -- what would wait is not wanted
        have e : m + 1 - f = (b - f) + (m + 1 - b) := by omega
        rw [e] at hs
        obtain ⟨x, y, h1, h2, h3⟩ := segP_split _ _ hs
        rw [show f + (b - f) = b by omega] at h2
        have fl := row_flat h (f := f) b (by omega) (by omega) fun k hk1 hk2 => by
          obtain ⟨z, hz⟩ := segP_all h1 (k - f) (by omega)
          rw [show f + (k - f) = k by omega] at hz
          exact wantP_late S.nofine hk2 hz
        have nx := segP_nonneg (fun k z e => wantP_nonneg N e) h1
        exact ⟨b, y, hb, h2, by omega⟩
      · have hbf : b < f := by omega
        obtain ⟨f1, rfl⟩ : ∃ f1, f = f1 + 1 := ⟨f - 1, by omega⟩
        rcases h.some f1 (by omega) with ⟨b', f', s', hb', hf', hs', hv⟩ | ⟨⟨d, hd, hw⟩, hv⟩
        · by_cases hbb : b ≤ b'
          · obtain ⟨t, h1, h2⟩ := seg_later S N (f := f1 + 1) hbb (by omega) (m + 1 - (f1 + 1)) s (by omega) hs
            have e : m + 1 - f' = (f1 + 1 - f') + (m + 1 - (f1 + 1)) := by omega
            have j := segP_join (w := wantP g b') (f := f') (m + 1 - (f1 + 1)) (f1 + 1 - f') hs' (by rw [show f' + (f1 + 1 - f') = f1 + 1 by omega]; exact h1)
            rw [← e] at j
            obtain ⟨d, t', h3, h4, h5⟩ := ih f' (by omega) b' _ (by omega) (by omega) j
            have := hl b
            exact ⟨d, t', h3, h4, by omega⟩
          · by_cases hfb : b ≤ f'
            · obtain ⟨t, h1, h2⟩ := seg_later S N (b := b') (c := b) (f := f') (by omega) hfb (f1 + 1 - f') s' (by omega) hs'
              have e : m + 1 - f' = (f1 + 1 - f') + (m + 1 - (f1 + 1)) := by omega
              have j := segP_join (w := wantP g b) (f := f') (m + 1 - (f1 + 1)) (f1 + 1 - f') h1 (by rw [show f' + (f1 + 1 - f') = f1 + 1 by omega]; exact hs)
              rw [← e] at j
              obtain ⟨d, t', h3, h4, h5⟩ := ih f' (by omega) b _ (by omega) (by omega) j
              have := hl b'
              exact ⟨d, t', h3, h4, by omega⟩
            · -- the days from b on are baked on b
              have e1 : f1 + 1 - f' = (b - f') + (f1 + 1 - b) := by omega
              rw [e1] at hs'
              obtain ⟨x, y, h1, h2, h3⟩ := segP_split _ _ hs'
              rw [show f' + (b - f') = b by omega] at h2
              have hrb : row b ≤ row f' + lights b' + x := by
                have := h.least (b - 1) (by omega) (row f' + lights b' + x) (.inl ⟨b', f', x, by omega, by omega, by rw [show b - 1 + 1 - f' = b - f' by omega]; exact h1, rfl⟩)
                rw [show b - 1 + 1 = b by omega] at this
                exact this
              obtain ⟨t, h4, h5⟩ := seg_later S N (b := b') (c := b) (f := b) (by omega) (Nat.le_refl b) (f1 + 1 - b) y (by omega) h2
              have e : m + 1 - b = (f1 + 1 - b) + (m + 1 - (f1 + 1)) := by omega
              have j := segP_join (w := wantP g b) (f := b) (m + 1 - (f1 + 1)) (f1 + 1 - b) h4 (by rw [show b + (f1 + 1 - b) = f1 + 1 by omega]; exact hs)
              rw [← e] at j
              exact ⟨b, _, hb, j, by omega⟩
        · have hw0 : wantN g f1 = 0 := (wantN_at hd).trans hw
          have j := segP_join (w := wantP g b) (f := f1) (m + 1 - (f1 + 1)) 1 (x := 0) (by
            have := segP_add (segP_zero (wantP g b) f1) (show wantP g b (f1 + 0) = some 0 from wantP_unw (by omega) hw0)
            exact this) hs
          rw [show 1 + (m + 1 - (f1 + 1)) = m + 1 - f1 by omega] at j
          obtain ⟨d, t', h3, h4, h5⟩ := ih f1 (by omega) b _ (by omega) (by omega) j
          exact ⟨d, t', h3, h4, by omega⟩
/-! ### the last lit day -/
/-- a cheapest plan for the first j days bakes all from d on, something, on d -/
def EndsAt (g : Good) (lights row : Nat → Int) (j d : Nat) : Prop := d < j ∧ 0 < sumN (fun i => wantN g (d + i)) (j - d) ∧ ∃ s, segP (wantP g d) d (j - d) = some s ∧ row d + lights d + s = row j
def IsLast (g : Good) (lights row : Nat → Int) (j : Nat) : Option Nat → Prop
  | none => ∀ d, ¬ EndsAt g lights row j d
  | some d => EndsAt g lights row j d ∧ ∀ e, d < e → ¬ EndsAt g lights row j e
theorem IsLast.uniq {g : Good} {lights row : Nat → Int} {j : Nat} {o o' : Option Nat} (h : IsLast g lights row j o) (h' : IsLast g lights row j o') : o = o' := by
  cases o with
  | none =>
    cases o' with
    | none => rfl
    | some d => exact absurd h'.1 (h d)
  | some d =>
    cases o' with
    | none => exact absurd h.1 (h' d)
    | some e =>
      congr 1
      by_cases h1 : d < e
      · exact absurd h'.1 (h.2 e h1)
      · by_cases h2 : e < d
        · exact absurd h.1 (h'.2 d h2)
        · omega
theorem wsum_zero {g : Good} {d : Nat} (N : NonNegW g.days) : ∀ m, sumN (fun i => wantN g (d + i)) m = 0 → ∀ i, i < m → wantN g (d + i) = 0
  | 0, _, i, hi => by omega
  | m + 1, h, i, hi => by
    have h : sumN (fun i => wantN g (d + i)) m + wantN g (d + m) = 0 := h
    have a := sumN_nonneg (f := fun i => wantN g (d + i)) m fun k _ => wantN_nonneg N _
    have b := wantN_nonneg N (d + m)
    by_cases e : i = m
    · subst e
      omega
    · exact wsum_zero N m (by omega) i (by omega)
theorem wsum_pos {g : Good} {d m i : Nat} (N : NonNegW g.days) (hi : i < m) (h : 0 < wantN g (d + i)) : 0 < sumN (fun i => wantN g (d + i)) m := by
  have a := sumN_nonneg (f := fun i => wantN g (d + i)) m fun k _ => wantN_nonneg N _
  by_cases e : sumN (fun i => wantN g (d + i)) m = 0
  · have := wsum_zero N m e i hi
    omega
  · omega
section
variable {g : Good} {lights row : Nat → Int} {n : Nat}
/-- of a day without a want nothing changes -/
theorem last_unw (h : IsRow g lights row n) (hn : n ≤ g.days.length) (hl : ∀ b, 0 ≤ lights b) (N : NonNegW g.days) (S : Steady g) {m : Nat} (hm : m < n) (hw : wantN g m = 0) (d : Nat) : EndsAt g lights row (m + 1) d ↔ EndsAt g lights row m d := by
  have er : row (m + 1) = row m := by
    have a := row_up h hl N S.nofine hm
    have b := row_flat h (f := m) (m + 1) (by omega) (by omega) fun k h1 h2 => by
      rw [show k = m by omega]
      exact wantN_zero (by omega) hw
    omega
  constructor
  · rintro ⟨h1, h2, s, h3, h4⟩
    have hdm : d < m := by
      by_cases e : d = m
      · subst e
        rw [show d + 1 - d = 1 by omega] at h2
        have h2 : 0 < 0 + wantN g (d + 0) := h2
        rw [Nat.add_zero, hw] at h2
        omega
      · omega
    rw [show m + 1 - d = (m - d) + 1 by omega] at h2 h3
    obtain ⟨x, y, a1, a2, a3⟩ := segP_succ h3
    rw [show d + (m - d) = m by omega, wantP_unw (by omega) hw] at a2
    have a2 := Option.some.inj a2
    have h2 : 0 < sumN (fun i => wantN g (d + i)) (m - d) + wantN g (d + (m - d)) := h2
    rw [show d + (m - d) = m by omega, hw] at h2
    exact ⟨hdm, by omega, x, a1, by omega⟩
  · rintro ⟨h1, h2, s, h3, h4⟩
    refine ⟨by omega, ?_, s, ?_, by omega⟩
    · rw [show m + 1 - d = (m - d) + 1 by omega]
      show 0 < sumN (fun i => wantN g (d + i)) (m - d) + wantN g (d + (m - d))
      rw [show d + (m - d) = m by omega, hw]
      omega
    · rw [show m + 1 - d = (m - d) + 1 by omega]
      have := segP_add h3 (show wantP g d (d + (m - d)) = some 0 by rw [show d + (m - d) = m by omega]; exact wantP_unw (by omega) hw)
      rw [this, Int.add_zero]
theorem last_wanted (h : IsRow g lights row n) (hn : n ≤ g.days.length) (hl : ∀ b, 0 ≤ lights b) (N : NonNegW g.days) (S : Steady g) {m : Nat} (hm : m < n) (hw : wantN g m ≠ 0) : ∃ d, EndsAt g lights row (m + 1) d := by
  have hp : 0 < wantN g m := by have := wantN_nonneg N m; omega
  rcases h.some m hm with ⟨b, f, s, hb, hf, hs, hv⟩ | ⟨⟨d, hd, hw'⟩, _⟩
  · obtain ⟨d, t, h1, h2, h3⟩ := diag h hn hl N S hm f b s hb hf hs
    have h4 := h.least m hm _ (.inl ⟨d, d, t, h1, h1, h2, rfl⟩)
    refine ⟨d, by omega, wsum_pos N (i := m - d) (by omega) (by rw [show d + (m - d) = m by omega]; exact hp), t, h2, by omega⟩
  · exact absurd ((wantN_at hd).trans hw') hw
/-- it never goes back -/
theorem last_up (h : IsRow g lights row n) (hn : n ≤ g.days.length) (hl : ∀ b, 0 ≤ lights b) (N : NonNegW g.days) (S : Steady g) {m d e : Nat} (hm : m < n) (hw : wantN g m ≠ 0) (hd : EndsAt g lights row m d) (he : IsLast g lights row (m + 1) (some e)) : d ≤ e := by
  by_cases hlt : e < d
  · exfalso
    obtain ⟨d1, d2, s, d3, d4⟩ := hd
    obtain ⟨⟨e1, e2, t, e3, e4⟩, e5⟩ := he
    rw [show m + 1 - e = (m - e) + 1 by omega] at e3
    obtain ⟨x, y, a1, a2, a3⟩ := segP_succ e3
    rw [show e + (m - e) = m by omega] at a2
    obtain ⟨y', b1, b2⟩ := want_later S N (show m < g.days.length by omega) (show e ≤ d by omega) (by omega) a2
    have le : row m ≤ row e + lights e + x := by
      have := h.least (m - 1) (by omega) (row e + lights e + x) (.inl ⟨e, e, x, by omega, by omega, by rw [show m - 1 + 1 - e = m - e by omega]; exact a1, rfl⟩)
      rw [show m - 1 + 1 = m by omega] at this
      exact this
    have sg : segP (wantP g d) d (m + 1 - d) = some (s + y') := by
      rw [show m + 1 - d = (m - d) + 1 by omega]
      exact segP_add d3 (by rw [show d + (m - d) = m by omega]; exact b1)
    have ge := h.least m hm _ (.inl ⟨d, d, _, by omega, by omega, sg, rfl⟩)
    have hp : 0 < wantN g m := by have := wantN_nonneg N m; omega
    exact e5 d hlt ⟨by omega, wsum_pos N (i := m - d) (by omega) (by rw [show d + (m - d) = m by omega]; exact hp), _, sg, by omega⟩
  · omega
end
end Bk

namespace Bk
open PySem PySem.Spec PyProof.Rows L2
def natO (o : Option Nat) : Option Int := o.map fun d => (d : Int)
def natV (o : Option Nat) : V := optV (natO o)
/-- the last lit days of a bakery's first days -/
structure Lasts (g : Good) (ls : List Int) (os : List (Option Nat)) : Prop where
  len : os.length = ls.length + 1
  row : ∃ row, IsRow g (rowF ls) row ls.length ∧ ∀ j o, os[j]? = some o → IsLast g (rowF ls) row j o
theorem EndsAt.congr {g : Good} {lights lights' row row' : Nat → Int} {j d : Nat} (e : ∀ k, k ≤ j → row k = row' k) (el : ∀ k, k < j → lights k = lights' k) (h : EndsAt g lights row j d) : EndsAt g lights' row' j d := by
  obtain ⟨h1, h2, s, h3, h4⟩ := h
  exact ⟨h1, h2, s, h3, by rw [← e d (by omega), ← e j (Nat.le_refl j), ← el d h1]; exact h4⟩
theorem IsLast.of_iff {g g' : Good} {lights lights' row row' : Nat → Int} {j j' : Nat} {o : Option Nat} (e : ∀ d, EndsAt g lights row j d ↔ EndsAt g' lights' row' j' d) (h : IsLast g lights row j o) : IsLast g' lights' row' j' o := by
  cases o with
  | none => exact fun d z => h d ((e d).mpr z)
  | some d => exact ⟨(e d).mp h.1, fun x hx z => h.2 x hx ((e x).mpr z)⟩
theorem Lasts.at_ {g : Good} {ls : List Int} {os : List (Option Nat)} (h : Lasts g ls os) {row : Nat → Int} (hR : IsRow g (rowF ls) row ls.length) {j : Nat} {o : Option Nat} (ho : os[j]? = some o) : IsLast g (rowF ls) row j o := by
  obtain ⟨row', h1, h2⟩ := h.row
  have hj : j < os.length := (List.getElem?_eq_some_iff.mp ho).1
  have hl := h.len
  have e := h1.ext hR
  exact (h2 j o ho).of_iff fun d => ⟨fun z => z.congr (fun k hk => e k (by omega)) fun _ _ => rfl, fun z => z.congr (fun k hk => (e k (by omega)).symm) fun _ _ => rfl⟩
theorem Lasts.uniq {g : Good} {ls : List Int} {os os' : List (Option Nat)} (h : Lasts g ls os) (h' : Lasts g ls os') : os = os' := by
  obtain ⟨row, h1, h2⟩ := h.row
  apply List.ext_getElem?
  intro j
  by_cases hj : j < ls.length + 1
  · have e := List.getElem?_eq_getElem (show j < os.length by rw [h.len]; exact hj)
    have e' := List.getElem?_eq_getElem (show j < os'.length by rw [h'.len]; exact hj)
    rw [e, e', (h2 j _ e).uniq (h'.at_ h1 e')]
  · rw [List.getElem?_eq_none (by rw [h.len]; omega), List.getElem?_eq_none (by rw [h'.len]; omega)]
theorem wantN_take {g : Good} {m k : Nat} (hk : k < m) : wantN ⟨g.days.take m, g.life⟩ k = wantN g k := by
  unfold wantN
  dsimp only
  rw [List.getElem?_take_of_lt hk]
theorem ends_take {g : Good} {lights lights' row : Nat → Int} {m j d : Nat} (hj : j ≤ m) (el : ∀ k, k < m → lights' k = lights k) : EndsAt g lights row j d ↔ EndsAt ⟨g.days.take m, g.life⟩ lights' row j d := by
  have key : d < j → sumN (fun i => wantN ⟨g.days.take m, g.life⟩ (d + i)) (j - d) = sumN (fun i => wantN g (d + i)) (j - d) := fun hd => sumN_congr _ fun i hi => wantN_take (by omega)
  constructor
  · rintro ⟨h1, h2, s, h3, h4⟩
    exact ⟨h1, by rw [key h1]; exact h2, s, by rw [segP_take (by omega) (by omega)]; exact h3, by rw [el d (by omega)]; exact h4⟩
  · rintro ⟨h1, h2, s, h3, h4⟩
    exact ⟨h1, by rw [← key h1]; exact h2, s, by rw [← segP_take (j := m) (by omega) (by omega)]; exact h3, by rw [← el d (by omega)]; exact h4⟩
theorem Lasts.take {g : Good} {ls : List Int} {os : List (Option Nat)} (h : Lasts g ls os) {m : Nat} (hm : m ≤ ls.length) : Lasts ⟨g.days.take m, g.life⟩ (ls.take m) (os.take (m + 1)) := by
  obtain ⟨row, h1, h2⟩ := h.row
  have el : (ls.take m).length = m := by rw [List.length_take]; omega
  refine ⟨by rw [List.length_take, h.len, el]; omega, row, ?_, fun j o ho => ?_⟩
  · rw [el]
    exact row_lights (fun b hb => (rowF_take hb).symm) (h1.take hm)
  · have hj : j < m + 1 := by
      have := (List.getElem?_eq_some_iff.mp ho).1
      rw [List.length_take] at this
      omega
    rw [List.getElem?_take_of_lt hj] at ho
    exact (h2 j o ho).of_iff fun d => ends_take (by omega) fun k hk => rowF_take hk
theorem Steady.take {g : Good} (h : Steady g) (m : Nat) : Steady ⟨g.days.take m, g.life⟩ := by
  refine ⟨fun d hd => h.nofine d (List.mem_of_mem_take hd), fun k d e hd he => ?_⟩
  have hk : k + 1 < m := by
    have := (List.getElem?_eq_some_iff.mp he).1
    rw [List.length_take] at this
    omega
  have hd : (g.days.take m)[k]? = some d := hd
  have he : (g.days.take m)[k + 1]? = some e := he
  rw [List.getElem?_take_of_lt (by omega)] at hd
  rw [List.getElem?_take_of_lt hk] at he
  exact h.never k d e hd he
/-! ### lists of days or None, compared -/
theorem dp_opts {K : PySem.W.Frag} {H : Hp} : ∀ l : List (Option Int), DpAll K H (l.map optV) (l.map optD)
  | [] => .nil
  | none :: r => .cons .non (dp_opts r)
  | some i :: r => .cons (.int i) (dp_opts r)
theorem lay_opts : ∀ l : List (Option Int), PyData.canLayAll0 (l.map optD) = true
  | [] => by simp only [List.map, PyData.canLayAll0]
  | none :: r => by simp only [List.map, PyData.canLayAll0, optD, PyData.canLay0, lay_opts r, Bool.and_self]
  | some i :: r => by simp only [List.map, PyData.canLayAll0, optD, PyData.canLay0, lay_opts r, Bool.and_self]
theorem depth_opts : ∀ l : List (Option Int), PyData.depthAll (l.map optD) = 0
  | [] => by simp only [List.map, PyData.depthAll]
  | none :: r => by simp only [List.map, PyData.depthAll, optD, PyData.depth, depth_opts r]; decide
  | some i :: r => by simp only [List.map, PyData.depthAll, optD, PyData.depth, depth_opts r]; decide
theorem shaped_opts (l : List (Option Int)) : SeqAt.shaped (.list (l.map optD)) = true := by
  simp only [SeqAt.shaped, PyData.canLay0, lay_opts, PyData.depth, depth_opts, Bool.true_and]
  decide
theorem natV_map (os : List (Option Nat)) : (os.map natV) = (os.map natO).map optV := by rw [List.map_map]; rfl
theorem ne_nats {K : PySem.W.Frag} {H : Hp} {a b : Addr} {os : List (Option Nat)} {Q : VK} (h1 : SqL K H a (os.map natV)) (h2 : SqL K H b (os.map natV)) (q : Q (.bl false) H) : rNeD K (.ref a) (.ref b) H Q := by
  rw [natV_map] at h1 h2
  refine ⟨_, _, .lst h1 (dp_opts _), .lst h2 (dp_opts _), shaped_opts _, shaped_opts _, ?_⟩
  rw [SeqAt.eqv_refl _ (by simp only [PyData.canLay0, lay_opts])]
  exact q
theorem ne_nilnil {K : PySem.W.Frag} {H : Hp} {a b : Addr} {Q : VK} (h1 : SqL K H a []) (h2 : SqL K H b []) (q : Q (.bl false) H) : rNeD K (.ref a) (.ref b) H Q := by
  refine ⟨.list [], .list [], .lst h1 .nil, .lst h2 .nil, shaped_opts [], shaped_opts [], ?_⟩
  rw [SeqAt.eqv_refl _ (by simp only [PyData.canLay0, PyData.canLayAll0])]
  exact q
theorem atI_last {α : Type} {xs : List α} {m : Nat} {v : α} (h : xs.length = m + 1) (e : xs[m]? = some v) : atI xs (-1) = some v := by
  have k : ixN xs.length (-1) = some m := by
    rw [h]
    unfold ixN
    rw [if_neg (by decide), if_pos (by omega)]
    congr 1
    omega
  unfold atI
  rw [k]
  exact e
end Bk

/-! an own error class over ValueError whose __init__ begins with super().__init__(..) -/
namespace Bk
open PySem PySem.Spec PyProof.Rows L2
/-- what the written part says, besides OexC, of such a class at C and of its __init__, with the cell cc and the code cda -/
structure SupC (P : Program) (K : PySem.W.Frag) (C cc cda : Addr) : Prop where
  code : ∃ ccl cdd vs ccs file tf, K.lookup cda = some ⟨ccl, cdd, .fields vs, ccs⟩ ∧ vs[2]? = some (.str file tf) ∧ ((P.main.file : Str) == file) = true
  cell : ∃ cl cld csl, K.lookup cc = some ⟨cl, cld, .cell (some (.ref C)), csl⟩
  sup : PySem.W.ks_superIn K C C "__init__" = some (some (.builtin "ValueError.__init__"))
  mro : PySem.W.mroIn K C (.ref C) = some true
  sub : PySem.W.subIn K (.ref C) (.type "ValueError") = some true
  super : PySem.W.nsIn K mainGlobals "super" = some none
  opq : PySem.W.nsIn K cStatics "thirdparty.any" = some none
  top : (P.main.scope.names.lookup ("super" : Str)).isSome = false
theorem boot_super : bootBuiltins "super" = some (.type "super") := by decide +kernel
theorem pinAdd {X : Cx} {pins : List (Addr × Obj)} {σ : L2.St} {H : Hp} {s : Shared} (I : Inv X pins σ H s) {u : Addr} {o : Obj} (h1 : s.heap.get? u = some o) (h2 : H u = none) (h3 : u ≠ X.env.locals) (h4 : u ∉ X.fs) (h5 : ∀ v, o.data ≠ .cell v) : Inv X ((u, o) :: pins) σ H s := by
  have hp : ∀ p ∈ X.pn ++ ((u, o) :: pins), s.heap.get? p.1 = some p.2 ∧ H p.1 = none ∧ p.1 ≠ X.env.locals ∧ p.1 ∉ X.fs ∧ ∀ v, p.2.data ≠ .cell v := by
    intro p hp
    rcases List.mem_append.mp hp with z | z
    · exact I.pin p (List.mem_append_left _ z)
    · rcases List.mem_cons.mp z with z | z
      · rw [z]
        exact ⟨h1, h2, h3, h4, h5⟩
      · exact I.pin p (List.mem_append_right _ z)
  exact ⟨I.ok, I.os, I.bare, I.base, I.loc, I.cell, I.free, I.freeC, hp, I.hok, I.len⟩
/-- the bound ValueError.__init__, called -/
theorem sup_call {X : Cx} {pins : List (Addr × Obj)} {σ : L2.St} {H : Hp} {s : Shared} {a C u : Addr} {us : List Value} {A : Around} {Q : Value → Shared → Prop} {E : Value → Shared → Prop} (T : OexC X.K C) (I : Inv X pins σ H s) (e : H a = some (exo a C none)) (hu : s.heap.get? u = some (PySem.W.kxs_mw "ValueError.__init__" a)) (hl : us.length ≤ sizeLine)
    (h : ∀ s', Inv X pins σ H s' → Q .none s') : wpAny (model X.prog X.w) A (call (.ref u) us) Q E s := by
  obtain ⟨nm, q, N, bs, bm, sn, sub, ab, col, dd, k0, k1, k2, k3, k5, hC, hbm⟩ := T.cls
  obtain ⟨t1, ho⟩ := exo_at I.hok e
  have hC := I.kIn _ _ hC
  obtain ⟨hp, g, d, t, os⟩ := s
  refine wpAny_call (codeAny_of_tree ?_)
  show wpAny _ A.in1 (callAny (.ref u) ⟨us, []⟩) _ _ _
  simp only [callAny]
  refine wpAny_bind (wpAny_load hu ?_)
  simp only [PySem.W.kxs_mw, show (Value.type "method-wrapper" == Value.type "method" || Value.type "method-wrapper" == Value.type "builtin_function_or_method" || Value.type "method-wrapper" == Value.type "method-wrapper") = true by decide, if_true]
  refine PySem.W.KFB.if_so (by decide) ?_
  refine wpAny_bind (PySem.W.check_bound_init F.excBase_ValueError.toExcCallFacts hC ho rfl ?_)
  refine wpAny_bind (wpAny_pure (wpAny_pure ?_))
  refine ⟨plainId_quiet F.excBase_ValueError.init.plain _, codeAny_builtin F.excBase_ValueError.initEntry ?_⟩
  rw [Around.under_plainId F.excBase_ValueError.init.plain _]
  refine PySem.W.exc_init_tree (cls := .ref C) (t0 := t1) (dv := none) (c2 := .none) (c3 := .none) (b4 := .bool false) ho hl fun h' k hx _ => ?_
  have J := I.write (t' := t) (x := a) (e := a) (o := exo a C none) (by rw [e]; exact True.intro) (.inl rfl) k ⟨_, hx⟩ (exo_ok hx)
  have eu : upd H a (exo a C none) = H := by
    funext b
    by_cases hb : b = a
    · rw [hb, upd_same, e]
    · rw [upd_ne hb]
  rw [eu] at J
  exact h _ J
section
open NdefX
variable {CX : CXT} {P : Program} {w : World} {K : PySem.W.Frag} {mg : Str → Option Value} {base : Heap} {N pr : List Str} {f C cc cda : Addr} {k : Nat} {sp : Sp}
  {qual : Str} {params : Arguments} {scope : Scope} {dV kV doc pm ct oc : Value} {an od : Option Addr} {osl : Array (Option Value)} {e : Expr} {es : List Expr} {rest : List Stmt} {p0 p1 p2 pos posE pa : Pos} {ann : Option Expr} {more : List Arg}
/-- __init__ of such a class, by what stands behind super().__init__(..) -/
theorem fn_sup (lk : K.lookup f = some ⟨oc, od, .func (PySem.W.ksFn "__init__" qual params (.Expr (.Call (.Attribute (.Call (.Name "super" p0) [] [] p1) "__init__" p2) (e :: es) [] pos) posE :: rest) scope dV kV doc pm an (.ref cda) ct cc), osl⟩)
    (hcd : PySem.W.codeIn K (.ref cda) qual = true) (T : OexC K C) (U : SupC P K C cc cda) (S : NScope N (("self" : Str) :: pr) ["__class__"] scope) (hsup : scope.names.lookup ("super" : Str) = some .globalImplicit)
    (hpar : (params.posonlyargs ++ params.args).head? = some ⟨"self", ann, pa⟩)
    (len : ∀ vs H Q E, sp vs H Q E → vs.length = (("self" : Str) :: pr).length)
    (hbody : ∀ (A : Around) (outer : List Env) (s : Shared) (H : Hp) (vs : List V) (Q : VK) (E : XK), sp vs H Q E →
      ∃ (a : Addr) (vr : List V) (ta : TA) (t : TS), vs = .ref a :: vr ∧ H a = some (exo a C none) ∧
        PA (ncx CX P w K mg base N ⟨"__init__", qual, params, (.Expr (.Call (.Attribute (.Call (.Name "super" p0) [] [] p1) "__init__" p2) (e :: es) [] pos) posE :: rest), scope, [("__class__", cc)], cda⟩ f A outer s H E) (e :: es) ta ∧
        PSs (ncx CX P w K mg base N ⟨"__init__", qual, params, (.Expr (.Call (.Attribute (.Call (.Name "super" p0) [] [] p1) "__init__" p2) (e :: es) [] pos) posE :: rest), scope, [("__class__", cc)], cda⟩ f A outer s H E) rest t ∧
        ta (startF N vs [none]) H fun ws H1 => ws.length ≤ 1000 ∧ H1 = H ∧ t { nx := fun _ H' => Q .non H', rt := Q } (startF N vs [none]) H)
    (he : ∀ env, starEach (e :: es) env = (false, eval e env) :: starEach es env := by intro _; rfl) (hpl : ∀ env, (backTo pos (starEach es env)).any (·.1) = false := by intro _; rfl)
    (hev : ∀ env, ∃ pl, eval (.Call (.Attribute (.Call (.Name "super" p0) [] [] p1) "__init__" p2) (e :: es) [] pos) env = (do
      let ov ← attributeBase (.Call (.Name "super" p0) [] [] p1) "__init__" env (eval (.Call (.Name "super" p0) [] [] p1) env)
      standAt p2.atName
      let (f, first) ← holding [ov] (getMethod ov "__init__" pl)
      callWith pos f first (backTo pos (starEach (e :: es) env)) []) := by intro _; exact ⟨_, rfl⟩)
    (hsw : ∀ env, swapsWith (.Call (.Attribute (.Call (.Name "super" p0) [] [] p1) "__init__" p2) (e :: es) [] pos) none posE.line env = pure false := by intro _; rfl) :
    FnOk P w K mg base CX (k + 1) f (PySem.W.ksFn "__init__" qual params (.Expr (.Call (.Attribute (.Call (.Name "super" p0) [] [] p1) "__init__" p2) (e :: es) [] pos) posE :: rest) scope dV kV doc pm an (.ref cda) ct cc) (("self" : Str) :: pr) sp := by
  refine ⟨len, fun A outer s H args us vs Q E hr e0 hb r hsp => ?_⟩
  have hl := len _ _ _ _ hsp
  have KX : K.In s.heap := e0.mod.kin.keeps fun b o e => (e0.bs b o e).1
  have lim : s.heap.NoLimit := e0.mod.nolimit.keeps fun b o e => (e0.bs b o e).1
  obtain ⟨ccl, cdd, vsC, ccs, file, tf, hcode, hvs, hfile⟩ := U.code
  obtain ⟨cl, cld, csl, hcell⟩ := U.cell
  obtain ⟨a, vr, ta, t, rfl, ha, hPA, hPS, hta⟩ := hbody A outer s H vs Q E hsp
  refine ks_codeAny_call_defAt (binds := (("self" : Str) :: pr).zip us) hr.depth (KX _ _ lk) rfl lim (PySem.W.codeRec_of KX hcd) rfl hb S.nocell (fun ⟨n, v⟩ hy => S.par n (List.of_mem_zip hy).1) (fun h₁ hns kp => ?_) S.co S.gen S.kind
  have look1 : ∀ {y : Str} {c : Addr}, List.lookup y [(("__class__" : Str), cc)] = some c → y = "__class__" ∧ c = cc := fun {y c} e => by
    by_cases h : y = "__class__"
    · subst h
      simp [List.lookup] at e
      exact ⟨rfl, e.symm⟩
    · have h : (y == ("__class__" : Str)) = false := by simpa using h
      simp [List.lookup, h] at e
  have CA : CellsAt [(("__class__" : Str), cc)] ["__class__"] [none] s.heap H := by
    refine ⟨rfl, fun y c e => ?_, fun x y c h1 h2 => ?_, fun i y hi => ?_⟩
    · obtain ⟨rfl, rfl⟩ := look1 e
      exact ⟨(e0.bs _ _ (e0.mod.kin _ _ hcell)).2, _, _, KX _ _ hcell, rfl⟩
    · rw [(look1 h1).1, (look1 h2).1]
    · cases i with
      | zero =>
        cases hi
        exact ⟨cc, by simp [List.lookup], fun v hv => by cases hv⟩
      | succ i => cases hi
  have I : Inv (ncx CX P w K mg base N ⟨"__init__", qual, params, (.Expr (.Call (.Attribute (.Call (.Name "super" p0) [] [] p1) "__init__" p2) (e :: es) [] pos) posE :: rest), scope, [("__class__", cc)], cda⟩ f A outer s H E) [] (startF N (.ref a :: vr) [none]) H { s with heap := h₁, toks := s.toks + ((("self" : Str) :: pr).zip us).length } := inv_startN S hr.hd e0 hl r CA hns kp
  have KX1 : K.In h₁ := KX.keeps kp
  obtain ⟨oC, hC1, hC2⟩ : ∃ oD cdD, h₁.get? C = some oD ∧ oD.data = .cls cdD := by
    obtain ⟨nm, q, N', bs, bm, sn, sub, ab, col, dd, k0, k1, k2, k3, k5, hC, hbm⟩ := T.cls
    exact ⟨_, _, KX1 _ _ hC, rfl⟩
  obtain ⟨t1, hx⟩ := exo_at I.hok ha
  obtain ⟨hC2, hC3⟩ := hC2
  cases r with
  | cons ra rr =>
  rename_i u0 ur
  obtain rfl : u0 = Value.ref a := ra
  have hint : interactive (callEnv (PySem.W.ksFn "__init__" qual params (.Expr (.Call (.Attribute (.Call (.Name "super" p0) [] [] p1) "__init__" p2) (e :: es) [] pos) posE :: rest) scope dV kV doc pm an (.ref cda) ct cc) s.heap.objs.size f) = false := by
    show (scope.kind == .module && _) = false
    rw [S.kind]
    rfl
  obtain ⟨pl, hpl'⟩ := hev (callEnv (PySem.W.ksFn "__init__" qual params (.Expr (.Call (.Attribute (.Call (.Name "super" p0) [] [] p1) "__init__" p2) (e :: es) [] pos) posE :: rest) scope dV kV doc pm an (.ref cda) ct cc) s.heap.objs.size f)
  refine ks_wpAt_execs_cons (ks_wpAt_Expr_any (ks_wpAt_MethodCall (pl := pl) (ks_wpAt_super_base (ar := ⟨"self", ann, pa⟩) hsup (S.frk _ (by simp)) (by decide) rfl (KX1 _ _ lk) rfl hpar rfl (KX1 _ _ hcode) rfl hvs hfile U.top ?_) hpl') hint (hsw _))
  have hnd : ((("self" : Str)) :: pr).Nodup := by
    have q := S.nd.sublist (List.take_sublist (((("self" : Str)) :: pr).length + ([("__class__" : Str)]).length) N)
    rw [S.pre] at q
    exact (List.nodup_append.mp q).1
  obtain ⟨mb, hb1, hb2⟩ := e0.mod.blt
  have up1 : ∀ b o, base.get? b = some o → h₁.get? b = some o := fun b o z => kp b o (e0.bs b o z).1
  refine PySem.W.ks_loadName_global S.kind hsup (Calls.loadGlobal_builtin (e0.mod.glob.keeps up1) (PySem.W.mg_none_of e0.mod.kin e0.mod.glob U.super) (hb1.keeps up1) ((hb2 _ (by decide +kernel)).trans boot_super) ⟨rfl, ?_⟩)
  refine wpAny_loadName_free S.kind (S.frk _ (by simp)) (show List.lookup _ [(("__class__" : Str), cc)] = some cc by simp [List.lookup]) ⟨_, KX1 _ _ hcell, rfl⟩ ?_
  refine wpAny_loadName_local S.kind (S.par _ (by simp)) hns (v := .ref a) (zip_look (i := 0) hnd rfl rfl) ?_
  refine ks_wpAny_isType_cls hC2 hC3 ⟨rfl, ?_⟩
  refine ks_wpAny_call_super hC2 hC3 hx rfl (fun c z => by cases z) (PySem.W.looks_mroIn KX1 U.mro) (fun h' eso k' => ?_)
  have KX2 : K.In h' := KX1.keeps k'
  have hx2 := k' _ _ hx
  obtain ⟨cd, hcl⟩ : ∃ cd, PySem.W.clsIn K C = some cd := by
    obtain ⟨nm, q, N', bs, bm, sn, sub, ab, col, dd, k0, k1, k2, k3, k5, hC, hbm⟩ := T.cls
    exact ⟨_, by unfold PySem.W.clsIn; rw [hC] <;> rfl⟩
  have hsp := U.sup
  unfold PySem.W.ks_superIn at hsp
  rw [hcl] at hsp
  have IA : PySem.W.InstAt h' a _ C none := ⟨hx2, rfl, rfl, trivial⟩
  refine PySem.W.kxs_getMethod PySem.W.kxs_ValueError eso (PySem.W.looks_opaque KX2 U.opq) (l₀ := cd.mro) (fun A Q E s k q => wpAny_bind ((PySem.W.looks_clsIn KX2 hcl) A _ E s k (wpAny_pure q))) rfl KX2 hsp (IA.type.andThen (PySem.W.looks_subIn KX2 U.sub)) (PySem.W.ks_ne KX2 IA hcl) (by decide) ?_
  have k2 : ∀ b o, h₁.get? b = some o → (h'.push (PySem.W.kxs_mw "ValueError.__init__" a)).get? b = some o := fun b o z => Heap.get?_push_of_some _ (k' b o z)
  have hu : (h'.push (PySem.W.kxs_mw "ValueError.__init__" a)).get? h'.objs.size = some (PySem.W.kxs_mw "ValueError.__init__" a) := Heap.get?_push_at rfl rfl
  have I2 := I.kept (t' := s.toks + ((("self" : Str) :: pr).zip (Value.ref a :: ur)).length + 1) k2
  have hnu : ∀ {b : Addr} {o : Obj}, h₁.get? b = some o → b ≠ h'.objs.size := fun {b o} z => Nat.ne_of_lt (Heap.lt_size (k' b o z))
  have hsz : h₁.objs.size ≤ h'.objs.size := Nat.le_of_lt (Heap.lt_size eso)
  have I3 := pinAdd I2 (u := h'.objs.size) (o := PySem.W.kxs_mw "ValueError.__init__" a) hu (I.hok.fresh hsz) (fun z => by have q := I.lt; have z : h'.objs.size = s.heap.objs.size := z; have q : s.heap.objs.size < h₁.objs.size := q; omega) (I.nofs hsz) (fun v z => by cases z)
  rw [he]
  refine PySem.W.kxs_callWith (i := "ValueError.__init__") (x := a) (by show (false || (backTo pos (starEach es _)).any (·.1)) = false; rw [hpl]; rfl) (Calls.evalArgs_plain ?_)
  have hrun := hPA.run pos _ _ _ _ _ I3 hta
  rw [he] at hrun
  refine wpAny_mono hrun (fun us' s1 hq => ?_) fun _ _ z => z
  obtain ⟨vs', H1, I4, r4, hl4, rfl, ht⟩ := hq
  obtain ⟨hu4, _⟩ := I4.pin (h'.objs.size, PySem.W.kxs_mw "ValueError.__init__" a) (List.mem_append_right _ List.mem_cons_self)
  refine ⟨hu4, sup_call T I4 ha hu4 (by show us'.length ≤ _; rw [← Paired.length r4, sizeLine_eq]; omega) fun s5 I5 => ?_⟩
  refine wpAt_of_wpAny ?_
  refine wpAny_mono (hPS.run _ s5 _ H1 _ I5 ht) (fun fl s' hs => ?_) fun _ _ z => z
  have fin : ∀ {pins : List (Addr × Obj)} {σ' : L2.St} {H' : Hp} {v : V} {u : Value}, Inv (ncx CX P w K mg base N ⟨"__init__", qual, params, (.Expr (.Call (.Attribute (.Call (.Name "super" p0) [] [] p1) "__init__" p2) (e :: es) [] pos) posE :: rest), scope, [("__class__", cc)], cda⟩ f A outer s H1 E) pins σ' H' s' → L2.RelV v u → Q v H' → CE outer P w H1 s Q u s' :=
    fun {pins σ' H' v u} J rv q => ⟨v, H', J.os, J.bare, J.base, J.hok, rv, q⟩
  cases fl with
  | ret u =>
    obtain ⟨v, σ', H', J, rv, q⟩ := hs
    exact fin J rv q
  | next =>
    obtain ⟨σ', H', J, q⟩ := hs
    exact fin (v := V.non) (u := Value.none) J rfl q
  | brk =>
    obtain ⟨_, _, _, q⟩ := hs
    exact False.elim q
  | cont =>
    obtain ⟨_, _, _, q⟩ := hs
    exact False.elim q
end
end Bk

namespace Bk
open PySem PySem.Spec PyProof.Rows L2
/-! ### a def of the text that may let an exception out -/
structure DefX (P : Program) (w : World) (K : PySem.W.Frag) (mg : Str → Option Value) (base : Heap) (x : Str) (k : Nat) (ps : List Str) (sp : Sp) : Prop where
  ex : ∃ (f : Addr) (fd : FuncData), mg x = some (.ref f) ∧ PySem.W.keepIn K (.ref f) = true ∧ Binds K fd ps [] ∧ FnOk P w K mg base (L2.CX P w) k f fd ps sp
theorem pe_callDX {X : Cx} {x : Str} {k j : Nat} {ps : List Str} {sp : Sp} {W : WX} {e : Expr} {es : List Expr} {t : TA} {p pos : Pos} (D : DefX X.prog X.w X.K X.mg X.base x k ps sp) (tk : Takes X W) (hr : Room j X.A) (hg : Gl X x) (ha : PA X (e :: es) t)
    (hkj : k ≤ j := by omega) (hdb : (x == ("__debug__" : Str)) = false := by decide) (he : starEach (e :: es) X.env = (false, eval e X.env) :: starEach es X.env := by rfl) (hpl : (backTo pos (starEach es X.env)).any (·.1) = false := by rfl) :
    PE X (.Call (.Name x p) (e :: es) [] pos) (tCallS sp (WE W) t) := by
  obtain ⟨f, fd, hm, hk, hb, F⟩ := D.ex
  exact pe_callS F (hr.mono hkj) hg hm hk hb (passAt tk) ha hdb he hpl
/-! ### {x} of a number or None -/
def smV : V → Prop
  | .non => True
  | .int i => i.natAbs < 10 ^ 60
  | _ => False
def tFmtO (te : TE) : TE := fun σ H Q => te σ H fun x H1 => smV x ∧ ∀ y : Str, y.length ≤ 70 → Q (.str y) H1
theorem log60 {n : Nat} (h : n < 10 ^ 60) : n.log2 < 1920 := by
  by_cases h0 : n = 0
  · subst h0
    decide
  · have : n.log2 < 200 := (Nat.log2_lt h0).mpr (Nat.lt_of_lt_of_le h (by decide))
    omega
theorem pe_fmtO {X : Cx} {e : Expr} {te : TE} {pos : Pos} (he : PE X e te) : PE X (.FormattedValue e (-1) none pos) (tFmtO te) := by
  refine ⟨fun pins s σ H Q I h => wpAny_FormattedValue_plain (thn (he.run pins s σ H _ I h) fun v s1 hv => ?_)⟩
  obtain ⟨x, H1, I1, r1, hs, q⟩ := hv
  cases x with
  | non =>
    obtain rfl : v = Value.none := r1
    exact wpAny_formatField_none ⟨.str "None", H1, I1.tok _, ⟨_, rfl⟩, q _ (by decide)⟩
  | int i =>
    have hs : i.natAbs < 10 ^ 60 := hs
    obtain ⟨t, rfl⟩ := (show ∃ t, v = Value.int i t from r1)
    refine wpAny_formatField_int (log60 hs) ⟨.str (toString i), H1, I1.tok _, ⟨_, rfl⟩, q _ ?_⟩
    have z := int_text_length_le10 (k := 60) (by decide) hs
    rw [PySem.ofString_length]
    omega
  | _ => exact hs.elim
/-! ### the __init__ of an error with two fields -/
def spInit2 (K : PySem.W.Frag) (C : Addr) (f1 f2 : Str) : Sp := fun vs H Q _ => ∃ (a : Addr) (u v : V), vs = [.ref a, u, v] ∧ smV u ∧ smV v ∧ H a = some (exo a C none) ∧ ∀ dx, H dx = none → dx ≠ a → Q .non (upd (upd (upd H dx (exd dx [(f1, u)])) a (exo a C (some dx))) dx (exd dx [(f2, v), (f1, u)]))
theorem mk_init2 {K : PySem.W.Frag} {C a : Addr} {f1 f2 : Str} {H1 : Hp} {u v : V} {Q : XK} (hu : smV u) (hv : smV v) (ha : H1 a = none) (q : ∀ d, H1 d = none → Q (.ref C) (some d) (upd H1 d (.xd [(f2, v), (f1, u)]))) :
    spInit2 K C f1 f2 (.ref a :: ([u, v] ++ [])) (upd H1 a (exo a C none)) (fun x H2 => x = .non ∧ ∃ (d : Addr) (fs : List (Str × V)), H2 a = some (exo a C (some d)) ∧ H2 d = some (exd d fs) ∧ H1 d = none ∧ Q (.ref C) (some d) (upd (del H2 a) d (.xd fs))) (fun _ _ _ => False) := by
  refine ⟨a, u, v, rfl, hu, hv, upd_same, fun dx hdx hne => ⟨rfl, dx, _, ?_, upd_same, ?_, ?_⟩⟩
  · rw [upd_ne (Ne.symm hne), upd_same]
  · rw [upd_ne hne] at hdx
    exact hdx
  · have hd : H1 dx = none := by rw [upd_ne hne] at hdx; exact hdx
    have e : upd (del (upd (upd (upd (upd H1 a (exo a C none)) dx (exd dx [(f1, u)])) a (exo a C (some dx))) dx (exd dx [(f2, v), (f1, u)])) a) dx (.xd [(f2, v), (f1, u)]) = upd H1 dx (.xd [(f2, v), (f1, u)]) := by
      funext b
      by_cases hb : b = dx
      · rw [hb, upd_same, upd_same]
      · rw [upd_ne hb, upd_ne hb]
        by_cases hba : b = a
        · rw [hba, del_same, ha]
        · rw [del_ne hba, upd_ne hb, upd_ne hba, upd_ne hb, upd_ne hba]
    rw [e]
    exact q dx hd
end Bk

namespace Bk
open PySem PySem.Spec PyProof.Rows L2
/-! ### what is wrong with what is no bakery: the first thing -/
def fbD : Nat → List PyData → Option Nat
  | _, [] => none
  | i, d :: r => if dayB d = true then fbD (i + 1) r else some i
def badG (n : Nat) (d : PyData) : Option (Option Nat) := if goodFormB n d = true then (match d with
    | .tuple [.list ds, _] => (fbD 0 ds).map some
    | _ => some none) else some none
def wgD (n : Nat) : Nat → List PyData → Option (Nat × Option Nat)
  | _, [] => none
  | i, g :: r => match badG n g with
    | none => wgD n (i + 1) r
    | some o => some (i, o)
def wrongD (d : PyData) : Option (Option Nat × Option Nat) := if bakFormB d = true then (match d with
    | .tuple [.list ls, _, .list gs] => (wgD ls.length 0 gs).map fun p => (some p.1, p.2)
    | _ => some (none, none)) else some (none, none)
theorem fbD_none : ∀ {ds : List PyData} {i : Nat}, fbD i ds = none ↔ ds.all dayB = true
  | [], i => by simp [fbD]
  | d :: r, i => by
    rw [List.all_cons, Bool.and_eq_true]
    unfold fbD
    by_cases h : dayB d = true
    · rw [if_pos h, fbD_none (ds := r) (i := i + 1)]
      exact ⟨fun z => ⟨h, z⟩, fun z => z.2⟩
    · rw [if_neg h]
      exact ⟨fun z => (by cases z), fun z => absurd z.1 h⟩
theorem goodForm_inv {n : Nat} {d : PyData} (h : goodFormB n d = true) : ∃ ds l, d = .tuple [.list ds, l] ∧ ds.length = n ∧ lifeB l = true := by
  unfold goodFormB at h
  split at h
  · rename_i ds l
    rw [Bool.and_eq_true] at h
    cases ds with
    | list ds =>
      have h1 := Bool.and_eq_true_iff.mp h.1
      have a := of_decide_eq_true h1.1
      have b := of_decide_eq_true h1.2
      exact ⟨ds, l, rfl, by omega, h.2⟩
    | _ => cases h.1
  · cases h
theorem badG_none {n : Nat} {d : PyData} : badG n d = none ↔ goodB n d = true := by
  unfold badG
  by_cases h : goodFormB n d = true
  · rw [if_pos h]
    obtain ⟨ds, l, rfl, h1, h2⟩ := goodForm_inv h
    dsimp only
    rw [Option.map_eq_none_iff, fbD_none]
    simp only [goodB, h1, h2, decide_true, Bool.true_and, Bool.and_true]
  · rw [if_neg h]
    refine ⟨fun z => (by cases z), fun z => ?_⟩
    obtain ⟨ds, l, rfl, h1, h2, _⟩ := goodB_inv z
    exact absurd (by simp only [goodFormB, listB, h1, h2, Nat.le_refl, decide_true, Bool.and_self]) h
theorem wgD_none {n : Nat} : ∀ {gs : List PyData} {i : Nat}, wgD n i gs = none ↔ gs.all (goodB n) = true
  | [], i => by simp [wgD]
  | g :: r, i => by
    rw [List.all_cons, Bool.and_eq_true, ← badG_none]
    unfold wgD
    cases h : badG n g with
    | none =>
      dsimp only
      rw [wgD_none (gs := r) (i := i + 1)]
      exact ⟨fun z => ⟨rfl, z⟩, fun z => z.2⟩
    | some o => exact ⟨fun z => (by cases z), fun z => (by cases z.1)⟩
theorem bakForm_inv {d : PyData} (h : bakFormB d = true) : ∃ ls b gs, d = .tuple [.list ls, b, .list gs] ∧ lightsB (.list ls) = true ∧ boundB b = true ∧ listB 1 2 (.list gs) = true := by
  unfold bakFormB at h
  split at h
  · rename_i l b g
    rw [Bool.and_eq_true, Bool.and_eq_true] at h
    cases l with
    | list ls =>
      cases g with
      | list gs => exact ⟨ls, b, gs, rfl, h.1, h.2.1, h.2.2⟩
      | _ => cases h.2.2
    | _ => cases h.1
  · cases h
theorem wrongD_none {d : PyData} : wrongD d = none ↔ bakB d = true := by
  unfold wrongD
  by_cases h : bakFormB d = true
  · rw [if_pos h]
    obtain ⟨ls, b, gs, rfl, h1, h2, h3⟩ := bakForm_inv h
    dsimp only
    rw [Option.map_eq_none_iff, wgD_none]
    simp only [bakB, h1, h2, h3, Bool.true_and]
  · rw [if_neg h]
    refine ⟨fun z => (by cases z), fun z => ?_⟩
    obtain ⟨ls, b, gs, rfl, h1, h2, h3, _⟩ := bakB_inv z
    exact absurd (by simp only [bakFormB, h1, h2, h3, Bool.and_self]) h
theorem wgD_lt {n : Nat} : ∀ {gs : List PyData} {i j : Nat} {o : Option Nat}, wgD n i gs = some (j, o) → j < i + gs.length
  | [], i, j, o, h => by cases h
  | g :: r, i, j, o, h => by
    unfold wgD at h
    cases e : badG n g with
    | none =>
      rw [e] at h
      have := wgD_lt (gs := r) (i := i + 1) h
      rw [List.length_cons]
      omega
    | some o' =>
      rw [e] at h
      cases h
      rw [List.length_cons]
      omega
/-! ### raising -/
def clsBody : Stmt → List Stmt
  | .ClassDef (body := b) .. => b
  | _ => []
def clsM (st : Stmt) (j : Nat) : Stmt := (clsBody st).getD j (.Pass ⟨0, 0, 0, 0⟩)
/-- an error class with two fields, as the top has written it -/
structure Err2 (P : Program) (w : World) (K : PySem.W.Frag) (mg : Str → Option Value) (base : Heap) (x : Str) (C : Addr) (f1 f2 : Str) : Prop where
  g : mg x = some (.ref C)
  T : OexC K C
  init : ∃ (fI : Addr) (fd : FuncData), PySem.W.findIn K (.ref C) "__init__" = some (some (.ref fI)) ∧ PySem.W.typeIn K (.ref fI) = some (.type "function") ∧ Binds K fd ["self", f1, f2] [] ∧ FnOk P w K mg base CX0 1 fI fd ["self", f1, f2] (spInit2 K C f1 f2)
def rRaise2 (K : PySem.W.Frag) (C : Addr) (f1 f2 : Str) (W : WX) (σ : L2.St) (vs : List V) (H1 : Hp) : Prop := vs.length ≤ 1000 ∧ ∀ a, H1 a = none → spInit2 K C f1 f2 (.ref a :: (vs ++ [])) (upd H1 a (exo a C none))
  (fun v H2 => v = .non ∧ ∃ (d : Addr) (fs : List (Str × V)), H2 a = some (exo a C (some d)) ∧ H2 d = some (exd d fs) ∧ H1 d = none ∧ W (.ref C) (some d) σ (upd (del H2 a) d (.xd fs))) (fun _ _ _ => False)
def tRaise2 (K : PySem.W.Frag) (C : Addr) (f1 f2 : Str) (W : WX) (ta : TA) : TS := fun _ σ H => ta σ H fun vs H1 => rRaise2 K C f1 f2 W σ vs H1
theorem raise2_of {K : PySem.W.Frag} {C : Addr} {f1 f2 : Str} {W : WX} {σ : L2.St} {u v : V} {H1 : Hp} (hu : smV u) (hv : smV v) (hd : ∀ d, H1 d = none → W (.ref C) (some d) σ (upd H1 d (.xd [(f2, v), (f1, u)]))) : rRaise2 K C f1 f2 W σ [u, v] H1 :=
  ⟨by show 2 ≤ 1000; decide, fun a hn => mk_init2 (Q := fun cls d H' => W cls d σ H') hu hv hn hd⟩
theorem ps_raise2 {X : Cx} {x : Str} {C : Addr} {f1 f2 : Str} {W : WX} {ta : TA} {e : Expr} {es : List Expr} {k : Nat} {p pos pos2 : Pos} (R : Err2 X.prog X.w X.K X.mg X.base x C f1 f2) (hc : X.calm = true) (tk : Takes X W) (hr : Room k X.A) (hg : Gl X x) (ha : PA X (e :: es) ta) (hk : 2 ≤ k := by omega)
    (hdb : (x == ("__debug__" : Str)) = false := by decide) (he : starEach (e :: es) X.env = (false, eval e X.env) :: starEach es X.env := by rfl) (hpl : (backTo pos (starEach es X.env)).any (·.1) = false := by rfl) :
    PS X (.Raise (some (.Call (.Name x p) (e :: es) [] pos)) none pos2) (tRaise2 X.K C f1 f2 W ta) := by
  obtain ⟨fI, fd, h1, h2, h3, h4⟩ := R.init
  have M := pmk_oex (pos := pos) (p := p) R.T h1 h2 h4 (hr.mono hk) h3 .nil pass0 hg R.g ha hdb he hpl
  exact ps_raise (pos := pos2) hc tk M
end Bk

namespace Bk
open PySem PySem.Spec PyProof.Rows L2
/-! ### + of any two lists that can be read -/
def rCatL (K : PySem.W.Frag) : R2 := fun x y H Q => ∃ (l b : Addr) (xs zs : List V), x = .ref l ∧ y = .ref b ∧ SqL K H l xs ∧ SqL K H b zs ∧ xs.length + zs.length ≤ sizeLine ∧ ∀ p, H p = none → Q (.ref p) (upd H p (.lst (xs ++ zs)))
theorem op_catL {X : Cx} : OpR X (binaryOp .Add) (rCatL X.K) := by
  intro pins s σ H x y v u Q I rx ry h
  obtain ⟨l, b, xs, zs, rfl, rfl, hl, hb, hz, q⟩ := h
  cases rx
  cases ry
  obtain ⟨i1, r1, p1, z1⟩ := I.list hl
  obtain ⟨i2, r2, p2, z2⟩ := I.list hb
  have e1 := r1.length
  have e2 := r2.length
  obtain ⟨⟨k1, d1, t1, s1⟩, n1, g1, c1, f1, w1⟩ := p1
  obtain ⟨⟨k2, d2, t2, s2⟩, n2, g2, c2, f2, w2⟩ := p2
  simp only at c1 f1 w1 c2 f2 w2
  subst c1 f1 w1 c2 f2 w2
  refine concat_meets ⟨_, g1, rfl⟩ ⟨_, g2, rfl⟩ noFill_list_add seq_list_add PySem.F.slot_list_add PySem.F.entry_list_add (PySem.F.args_list_add_2 _ _) (list_addW l b i1.toArray i2.toArray n1 n2 none none s1 s2 (by rw [List.size_toArray, List.size_toArray]; omega)) ⟨g1, g2, ?_⟩
  rw [show i1.toArray ++ i2.toArray = (i1 ++ i2).toArray by simp]
  exact ⟨.ref _, _, I.lnew (t' := s.toks) (r1.append r2) (by rw [List.length_append]; omega), rfl, q _ I.fresh⟩
theorem rCatL_r {K : PySem.W.Frag} {l b : Addr} {H : Hp} {Q : VK} : rCatL K (.ref l) (.ref b) H Q = ∃ xs zs, SqL K H l xs ∧ SqL K H b zs ∧ xs.length + zs.length ≤ sizeLine ∧ ∀ p, H p = none → Q (.ref p) (upd H p (.lst (xs ++ zs))) := propext ⟨fun ⟨_, _, xs, zs, e1, e2, h⟩ => by cases e1; cases e2; exact ⟨xs, zs, h⟩, fun ⟨xs, zs, h⟩ => ⟨l, b, xs, zs, rfl, rfl, h⟩⟩
theorem rSlT_r {K : PySem.W.Frag} {a : Addr} {lo hi : Option Int} {H : Hp} {Q : VK} : rSlT K (.ref a) lo hi H Q = ∃ xs, SqT K H a xs ∧ ¬ (HT.sIx xs.length 0 lo = 0 ∧ HT.sIx xs.length xs.length hi = xs.length) ∧ ∀ p, H p = none → Q (.ref p) (upd H p (.tup (cutV xs lo hi))) := propext ⟨fun ⟨_, xs, e, h⟩ => by cases e; exact ⟨xs, h⟩, fun ⟨xs, h⟩ => ⟨a, xs, rfl, h⟩⟩
def rListOf (K : PySem.W.Frag) : List V → Hp → VK → Prop := fun xs H Q => ∃ p ys, xs = [.ref p] ∧ (SqL K H p ys ∨ SqT K H p ys) ∧ ∀ l, H l = none → Q (.ref l) (upd H l (.lst ys))
theorem call_listOf {X : Cx} : CallR X (.type "list") (rListOf X.K) := call_list_of
theorem rListOf_r {K : PySem.W.Frag} {p : Addr} {H : Hp} {Q : VK} : rListOf K [.ref p] H Q = ∃ ys, (SqL K H p ys ∨ SqT K H p ys) ∧ ∀ l, H l = none → Q (.ref l) (upd H l (.lst ys)) := propext ⟨fun ⟨_, ys, e, h⟩ => by cases e; exact ⟨ys, h⟩, fun ⟨ys, h⟩ => ⟨p, ys, rfl, h⟩⟩
theorem seq7 {A1 A2 A3 A4 A5 A6 A7 B : TS} {D : Ends} {σ : L2.St} {H : Hp} (Pm : L2.St → Hp → Prop) (hB : ∀ σ' H', Pm σ' H' → B D σ' H') (hA : ∀ N : L2.St → Hp → Prop, (∀ σ' H', Pm σ' H' → N σ' H') → tSeq A1 (tSeq A2 (tSeq A3 (tSeq A4 (tSeq A5 (tSeq A6 A7))))) { D with nx := N } σ H) : tSeq A1 (tSeq A2 (tSeq A3 (tSeq A4 (tSeq A5 (tSeq A6 (tSeq A7 B)))))) D σ H := hA _ hB
/-- the class's own clause takes its own errors -/
theorem exm_own {K : PySem.W.Frag} {S : Addr} (h1 : PySem.W.subIn K (.ref S) (.type "BaseException") = some true) (h2 : PySem.W.isClsIn K S = true) (h3 : PySem.W.typeIn K (.ref S) = some (.type "type")) (h4 : PySem.W.subIn K (.ref S) (.ref S) = some true) : PySem.W.exmOne K (.ref S) (.ref S) = some true := by
  unfold PySem.W.isClsIn at h2
  simp only [PySem.W.exmOne, PySem.W.kitCls, h1, h2, h3, h4, beq_self_eq_true, Bool.and_self, if_true]
end Bk

namespace Bk
open PySem PySem.Spec PyProof.Rows L2
/-! ### list != []: whatever the list holds -/
def rNeN (K : PySem.W.Frag) : R2 := fun x y H Q => ∃ (l b : Addr) (xs : List V), x = .ref l ∧ y = .ref b ∧ SqL K H l xs ∧ SqL K H b [] ∧ Q (.bl (!decide (xs.length = 0))) H
theorem op_neNil {X : Cx} (hu : X.A.units + 64 < cLine) : OpR X (compareOp .NotEq) (rNeN X.K) := by
  intro pins s σ H x y v u Q I rx ry h
  obtain ⟨l, b, xs, rfl, rfl, hl, hb, q⟩ := h
  by_cases e : xs.length = 0
  · have e' := List.eq_nil_of_length_eq_zero e
    subst e'
    exact op_neD hu pins s σ H _ _ v u Q I rx ry (ne_nilnil hl hb q)
  · cases rx
    cases ry
    obtain ⟨i1, r1, p1, z1⟩ := I.list hl
    obtain ⟨i2, r2, p2, z2⟩ := I.list hb
    have e1 := r1.length
    have e2 := r2.length
    rw [decide_eq_false e] at q
    exact PySem.SeqAt.RcNeAt.lists_lengths p1.isList p2.isList (by rw [List.size_toArray, List.size_toArray, ← e1, ← e2]; exact bne_iff_ne.mpr e) (by omega) _ _ _ _ ⟨.bl _, H, I, rfl, q⟩
theorem rNeN_r {K : PySem.W.Frag} {l b : Addr} {H : Hp} {Q : VK} : rNeN K (.ref l) (.ref b) H Q = ∃ xs, SqL K H l xs ∧ SqL K H b [] ∧ Q (.bl (!decide (xs.length = 0))) H := propext ⟨fun ⟨_, _, xs, e1, e2, h⟩ => by cases e1; cases e2; exact ⟨xs, h⟩, fun ⟨xs, h⟩ => ⟨l, b, xs, rfl, rfl, h⟩⟩
/-- [x for x in .. if ..], of which only is asked whether it is empty -/
theorem lcNil {J : It} {n : Nat} {G : Hp → Prop} {Y : Nat → Hp → V → Hp → Prop} (w : Walk J n G Y) {g : TG} {tt : TT} {te : TE} {vs : List Nat} {σ : L2.St} {H1 : Hp} {D : Addr} {Qd : Hp → Prop} (bs : Nat → Bool) (hD : H1 D = none) (hz : n ≤ 10000)
    (hG : ∀ H, Same H1 H → G H) (hY : ∀ i H x H', Y i H x H' → Same H H')
    (hs : ∀ i x H H', i < n → Same H1 H' → Y i H x H' → ∀ (R1 : V → Hp → Prop) (R0 : Hp → Prop), (bs i = true → ∀ y H4, Same H' H4 → R1 y H4) → (bs i = false → ∀ H4, Same H' H4 → R0 H4) → g x (wipe σ vs) H' fun σ2 H2 => wipe σ2 vs = wipe σ vs ∧ tt σ2 H2 fun b H3 => if b = true then te σ2 H3 R1 else R0 H3)
    (hd : ∀ H acc, Same H1 H → H D = some (.lst acc) → (acc.length = 0 ↔ ∀ j, j < n → bs j = false) → Qd H) : LcR J g tt te vs σ D H1 Qd := by
  refine LcR.by w (fun i H => Same H1 H ∧ ∃ acc, H D = some (.lst acc) ∧ acc.length ≤ i ∧ (acc.length = 0 ↔ ∀ j, j < i → bs j = false)) ⟨same_upd hD, [], upd_same, Nat.le_refl _, ⟨fun _ j hj => by omega, fun _ => rfl⟩⟩ (fun i H _ h => hG H h.1) (fun i x H H' hi h y => ?_) (fun H h => ?_)
  · obtain ⟨s0, acc, ea, hl, hacc⟩ := h
    have sy := hY _ _ _ _ y
    refine hs i x H H' hi (s0.trans sy) y _ _ (fun hb z H4 s4 => ?_) (fun hb H4 s4 => ?_)
    · refine ⟨acc, s4 _ _ (sy _ _ ea), sz100l (by omega), same_mut ((s0.trans sy).trans s4) hD, acc ++ [z], upd_same, by rw [List.length_append, List.length_singleton]; omega, ⟨fun e => ?_, fun e => ?_⟩⟩
      · rw [List.length_append, List.length_singleton] at e
        omega
      · have := e i (by omega)
        rw [hb] at this
        cases this
    · refine ⟨(s0.trans sy).trans s4, acc, s4 _ _ (sy _ _ ea), by omega, hacc.trans ⟨fun e j hj => ?_, fun e j hj => e j (by omega)⟩⟩
      by_cases ej : j = i
      · subst ej
        exact hb
      · exact e j (by omega)
  · obtain ⟨s0, acc, ea, _, hacc⟩ := h
    exact hd H acc s0 ea hacc
end Bk

namespace Bk
open PySem PySem.Spec PyProof.Rows L2
/-! ### i not in range(lo, hi) -/
def rNinr : R2 := fun x y H Q => ∃ (i : Int) (p : Addr) (m n : Int), x = .int i ∧ y = .ref p ∧ H p = some (.rng m n) ∧ Q (.bl (!decide (m ≤ i ∧ i < n))) H
theorem op_ninr {X : Cx} : OpR X (compareOp .NotIn) rNinr := by
  intro pins s σ H x y v u Q I rv ru hh
  obtain ⟨i, p, m, n, e1, e2, hp, q⟩ := hh
  subst e1
  subst e2
  obtain ⟨tk, rfl⟩ := rv
  have eu : u = Value.ref p := ru
  subst eu
  obtain ⟨w1, w2, w3, hob⟩ := I.hok p _ hp
  show wpAny _ _ (do return Value.bool (!(← contains (Value.ref p) (Value.int i tk)))) _ _ s
  have ty : s.TypeIs (Value.ref p) "range" := ⟨_, hob, rfl⟩
  refine wpAny_bind (wpAny_contains_slot ty F.slot_range_contains ?_)
  refine call_meets F.slot_range_contains ty F.entry_range_contains (F.args_range_contains_2 _ _) (q_contains p m n i w1 w2 w3 tk) ⟨hob, ?_⟩
  refine wpAny_truthy_bool (wpAny_pure ?_)
  refine ⟨.bl _, H, I, rfl, ?_⟩
  rw [place1]
  exact q
theorem rNinr_r {i : Int} {a : Addr} {H : Hp} {Q : VK} : rNinr (.int i) (.ref a) H Q = ∃ lo hi, H a = some (.rng lo hi) ∧ Q (.bl (!decide (lo ≤ i ∧ i < hi))) H := propext ⟨fun ⟨_, _, lo, hi, e1, e2, h⟩ => by cases e1; cases e2; exact ⟨lo, hi, h⟩, fun ⟨lo, hi, h⟩ => ⟨i, a, lo, hi, rfl, rfl, h⟩⟩
end Bk

namespace Bk
open PySem PySem.Spec PyProof.Rows L2
/-! ### what is a bakery by the looks has its shape -/
theorem numD_int {d : PyData} (h : numD d = true) : ∃ i, d = .int i := by
  cases d with
  | int i => exact ⟨i, rfl⟩
  | _ => cases h
theorem numsD_of : ∀ ls : List PyData, ls.all numD = true → ∃ ns : List Int, ls = ns.map PyData.int
  | [], _ => ⟨[], rfl⟩
  | d :: r, h => by
    rw [List.all_cons, Bool.and_eq_true] at h
    obtain ⟨i, rfl⟩ := numD_int h.1
    obtain ⟨ns, rfl⟩ := numsD_of r h.2
    exact ⟨i :: ns, rfl⟩
theorem bound_of {d : PyData} (h : boundB d = true) : ∃ o, d = optD o := by
  cases d with
  | none => exact ⟨none, rfl⟩
  | int i => exact ⟨some i, rfl⟩
  | _ => cases h
theorem life_of {d : PyData} (h : lifeB d = true) : ∃ o, d = optD o := by
  cases d with
  | none => exact ⟨none, rfl⟩
  | int i => exact ⟨some i, rfl⟩
  | _ => cases h
theorem day_of {d : PyData} (h : dayB d = true) : ∃ x, d = dayD x := by
  cases d with
  | tuple ds =>
    match ds, h with
    | [d1, d2, d3, d4], h =>
      simp only [dayB, Bool.and_eq_true, Bool.or_eq_true] at h
      obtain ⟨⟨⟨h1, h2⟩, h3⟩, h4⟩ := h
      obtain ⟨i1, rfl⟩ := numD_int h1
      obtain ⟨i2, rfl⟩ := numD_int h2
      obtain ⟨i3, rfl⟩ := numD_int h3
      rcases h4 with h4 | h4
      · cases d4 with
        | none => exact ⟨⟨i1, i2, i3, none⟩, rfl⟩
        | _ => cases h4
      · obtain ⟨i4, rfl⟩ := numD_int h4
        exact ⟨⟨i1, i2, i3, some i4⟩, rfl⟩
  | _ => cases h
theorem days_of : ∀ ls : List PyData, ls.all dayB = true → ∃ ns : List Day, ls = ns.map dayD
  | [], _ => ⟨[], rfl⟩
  | d :: r, h => by
    rw [List.all_cons, Bool.and_eq_true] at h
    obtain ⟨i, rfl⟩ := day_of h.1
    obtain ⟨ns, rfl⟩ := days_of r h.2
    exact ⟨i :: ns, rfl⟩
theorem good_of {n : Nat} {d : PyData} (h : goodB n d = true) : ∃ g, d = goodD g := by
  obtain ⟨ds, l, rfl, _, h2, h3⟩ := goodB_inv h
  obtain ⟨ns, rfl⟩ := days_of ds h3
  obtain ⟨o, rfl⟩ := life_of h2
  exact ⟨⟨ns, o⟩, rfl⟩
theorem goods_of {n : Nat} : ∀ ls : List PyData, ls.all (goodB n) = true → ∃ ns : List Good, ls = ns.map goodD
  | [], _ => ⟨[], rfl⟩
  | d :: r, h => by
    rw [List.all_cons, Bool.and_eq_true] at h
    obtain ⟨i, rfl⟩ := good_of h.1
    obtain ⟨ns, rfl⟩ := goods_of r h.2
    exact ⟨i :: ns, rfl⟩
theorem bakB_bak {d : PyData} (h : bakB d = true) : ∃ b, d = bakD b := by
  obtain ⟨ls, bo, gs, rfl, h1, h2, _, h4⟩ := bakB_inv h
  obtain ⟨ns, rfl⟩ := numsD_of ls (Bool.and_eq_true_iff.mp h1).2
  obtain ⟨o, rfl⟩ := bound_of h2
  obtain ⟨g, rfl⟩ := goods_of gs h4
  exact ⟨⟨ns, o, g⟩, rfl⟩
/-! ### t[::-1] of a tuple -/
def backV {α : Type} (xs : List α) : List α := ((List.range xs.length).map fun (k : Nat) => ((xs.length : Int) - 1 + (k : Int) * -1).toNat).filterMap (xs[·]?)
theorem backV_length {α : Type} (xs : List α) : (backV xs).length = xs.length := by
  unfold backV
  rw [pick_length, List.length_map, List.length_range]
  intro i hi
  obtain ⟨k, hk, rfl⟩ := List.mem_map.mp hi
  have := List.mem_range.mp hk
  omega
section
variable {prog : Program} {w : World} {A : Around} {E : Value → Shared → Prop} {s : Shared}
theorem sliceApplied_back {sl : Addr} {vs : Value} {n : Nat} {Q : Int × Int × Nat → Shared → Prop} (hs : s.heap.IsSliceOf sl .none .none vs) (ps : IsPart vs (some (-1)))
    (h : Q ((n : Int) - 1, -1, n) s) : wpAny (model prog w) A (Builtin.Slice.sliceApplied (.ref sl) (pure (n : Int))) Q E s := by
  obtain ⟨os, hos, hcs, hds⟩ := id hs
  unfold Builtin.Slice.sliceApplied Builtin.Slice.sliceFields
  refine wpAny_bind (wpAny_bind (wpAny_field hos hds (x := .none) rfl (wpAny_bind (wpAny_field hos hds (x := .none) rfl (wpAny_bind (wpAny_field hos hds (x := vs) rfl (wpAny_pure ?_)))))))
  refine wpAny_bind (HT.slicePart_ ps ?_)
  show wpAny _ _ (if ((-1 : Int) == 0) = true then _ else _) _ _ s
  rw [if_neg (by decide)]
  refine wpAny_bind (HT.slicePart_ .none (wpAny_bind (HT.slicePart_ .none (wpAny_bind (wpAny_pure ?_)))))
  show wpAny _ _ (match Builtin.Slice.sliceAdjust none none (-1) (n : Int) with | (lo, hi) => pure (lo, (-1 : Int), Builtin.Slice.slicePlaces lo hi (-1))) _ _ s
  rw [show Builtin.Slice.sliceAdjust none none (-1) (n : Int) = ((n : Int) - 1, -1) from rfl]
  show wpAny _ _ (pure ((n : Int) - 1, (-1 : Int), Builtin.Slice.slicePlaces ((n : Int) - 1) (-1) (-1))) _ _ s
  rw [show Builtin.Slice.slicePlaces ((n : Int) - 1) (-1) (-1) = n by
    unfold Builtin.Slice.slicePlaces
    rw [if_neg (by decide)]
    by_cases h0 : (n : Int) - 1 > -1
    · rw [if_pos h0, show (- -1 : Int) = 1 by decide, Int.ediv_one]
      omega
    · rw [if_neg h0]
      omega]
  exact wpAny_pure h
theorem getItem_tuple_back {t sl : Addr} {items : Array Value} {vs : Value} {Q : Value → Shared → Prop} (ht : IsTup s.heap t items) (hs : s.heap.IsSliceOf sl .none .none vs) (ps : IsPart vs (some (-1)))
    (h : Q (.ref s.heap.objs.size) { s with heap := s.heap.push { cls := .type "tuple", data := .seq (backV items.toList).toArray } })
    (hsz : items.size ≤ sizeLine) : wpAny (model prog w) A (getItem (.ref t) (.ref sl)) Q E s := by
  have htake : sizeOk (.seq (backV items.toList).toArray) := by
    show (backV items.toList).toArray.size ≤ sizeLine
    rw [List.size_toArray, backV_length, Array.length_toList]
    exact hsz
  obtain ⟨os, hos, hcs, hds⟩ := id hs
  have hTs : s.TypeIs (.ref sl) "slice" := ⟨os, hos, hcs⟩
  unfold getItem
  try with_reducible refine wpAny_holding ?_
  first | refine wpAny_bind (wpAny_pure ?_) | skip
  refine wpAny_bind (wpAny_sequenceKey ht.typeIs (by decide) ?_)
  refine wpAny_bind (wpAny_callSpecial?_slot (name := Str.ofString "__getitem__") ht.typeIs PyProof.Rows.slot_tuple_getitem
    (wpAny_call_entry PyProof.Rows.slot_tuple_getitem ht.typeIs entry_tuple_getitem ?_ (args_tuple_getitem _ _)))
  show wpAny _ _ (Builtin.Tuple.tupleItemsOf (.ref t) >>= _) _ _ s
  refine wpAny_bind (tupleItemsOf_ ht ?_)
  refine wpAny_bind (wpAny_typeOf hTs ?_)
  rw [if_pos (by decide)]
  refine wpAny_bind (sliceApplied_back hs ps ?_)
  have hno : ¬ ((((items.size : Int) - 1) == 0 && (-1 : Int) == 1 && items.size == items.size) = true) := by
    intro q
    rw [Bool.and_eq_true, Bool.and_eq_true] at q
    exact absurd q.1.2 (by decide)
  show wpAny _ _ (if (((items.size : Int) - 1) == 0 && (-1 : Int) == 1 && items.size == items.size) = true then _ else _) _ _ s
  have epick : ((List.range items.size).filterMap fun (k : Nat) => items[((items.size : Int) - 1 + (k : Int) * -1).toNat]?).toArray = (backV items.toList).toArray := by
    unfold backV
    rw [List.filterMap_map, Array.length_toList]
    congr 1
    congr 1
    funext k
    simp
  rw [if_neg hno, epick]
  first
    | exact wpAny_bind (m := Builtin.Tuple.tupleExact _) (wpAny_newObj_type (wpAny_pure ⟨_, rfl, wpAny_pure h⟩) htake)
    | exact wpAny_bind (m := Builtin.Tuple.tupleExact _) (wpAny_newObj_type (wpAny_bind (wpAny_pure (wpAny_pure ⟨_, rfl, wpAny_pure h⟩))) htake)
    | exact wpAny_bind (wpAny_bind (m := Builtin.Tuple.tupleExact _) (wpAny_newObj_type (wpAny_pure (wpAny_pure ⟨_, rfl, wpAny_pure h⟩)) htake))
    | exact wpAny_bind (wpAny_bind (m := Builtin.Tuple.tupleExact _) (wpAny_newObj_type (wpAny_pure ⟨_, rfl, wpAny_pure h⟩) htake))
end
def tBackT (K : PySem.W.Frag) (te : TE) (tl th ts : TO) : TE := fun σ H Q => te σ H fun x H1 => tl σ H1 fun l H2 => th σ H2 fun u H3 => ts σ H3 fun st H4 => ∃ a xs, x = .ref a ∧ SqT K H4 a xs ∧ l = none ∧ u = none ∧ st = some (-1) ∧
  ∀ p, H4 p = none → Q (.ref p) (upd H4 p (.tup (backV xs)))
theorem pe_backT {X : Cx} {e : Expr} {lo hi st : Option Expr} {te : TE} {tl th ts : TO} {p3 pos : Pos} (he : PE X e te) (hl : PO X lo tl) (hu : PO X hi th) (hst : PO X st ts)
    (hsub : ∀ a i, subscripted (.Slice lo hi st p3) false a i = operate [a, i] (getItem a i) := by intro _ _; with_unfolding_all rfl) : PE X (.Subscript e (.Slice lo hi st p3) pos) (tBackT X.K te tl th ts) := by
  refine ⟨fun pins s σ H Q I h => ?_⟩
  refine Subscript_ (thn (he.run pins s σ H _ I h) fun v s1 ⟨x, H1, I1, r1, q1⟩ => ?_)
  refine wpAny_Slice (thn (hl.run pins s1 σ H1 _ I1 q1) fun vl s2 ⟨l, H2, I2, pl, q2⟩ => ?_)
  refine thn (hu.run pins s2 σ H2 _ I2 q2) fun vu s3 ⟨u, H3, I3, pu, q3⟩ => ?_
  refine thn (hst.run pins s3 σ H3 _ I3 q3) fun vs s4 ⟨o, H4, I4, ps, q4⟩ => ?_
  obtain ⟨a, xs, ex, hx, e1, e2, e3, q⟩ := q4
  subst ex e1 e2 e3
  cases r1
  cases pl
  cases pu
  have I5 : Inv X pins σ H4 { s4 with heap := s4.heap.push { cls := .type "slice", data := .fields #[.none, .none, vs] } } := I4.kept (t' := s4.toks) fun b ob q => Heap.get?_push_of_some _ q
  obtain ⟨its, r, ht, hz⟩ := I5.tuple hx
  have hlen := r.length
  show wpAny (model X.prog X.w) X.A (subscriptTail e (.Slice lo hi st p3) (.ref a) (.ref s4.heap.objs.size)) (EP X pins σ Q) X.xe { s4 with heap := s4.heap.push { cls := .type "slice", data := .fields #[.none, .none, vs] } }
  refine tail_any (ops := [.ref a, .ref s4.heap.objs.size]) ht.typeIs (PyProof.Rows.slot_tuple_getitem.lookup) ?_ (hsub _ _)
  refine getItem_tuple_back ht (Heap.IsSliceOf.new _ .none .none vs) ps ?_ (by rw [List.size_toArray]; omega)
  have rp : Vals (backV xs) (backV its) := by
    have := vals_pick r ((List.range xs.length).map fun (k : Nat) => ((xs.length : Int) - 1 + (k : Int) * -1).toNat)
    unfold backV
    rw [← hlen]
    exact this
  show EP X pins σ Q _ { s4 with heap := (s4.heap.push { cls := .type "slice", data := .fields #[.none, .none, vs] }).push { cls := .type "tuple", data := .seq (backV its).toArray } }
  refine ⟨.ref _, _, I5.laid (t' := s4.toks) (o := .tup (backV xs)) (fun b ob q => Heap.get?_push_of_some _ q) (Nat.le_refl _) ?_, rfl, q _ (I5.hok.fresh (Nat.le_refl _))⟩
  exact ⟨by rw [backV_length]; omega, _, rp, IsTup.new _ _⟩
/-! ### expressions that tell some data, whatever they are -/
def Grow (R : Hp → V → Prop) : Prop := ∀ H H' y, Same H H' → R H y → R H' y
def Ye (R : Hp → V → Prop) (te : TE) (σ : L2.St) (H : Hp) : Prop := ∀ H1, Same H H1 → ∀ Q : VK, (∀ H2 y, Same H1 H2 → R H2 y → Q y H2) → te σ H1 Q
def Ya (R : Hp → List V → Prop) (ta : TA) (σ : L2.St) (H : Hp) : Prop := ∀ H1, Same H H1 → ∀ Q : List V → Hp → Prop, (∀ H2 ys, Same H1 H2 → R H2 ys → Q ys H2) → ta σ H1 Q
def Yo (to : TO) (σ : L2.St) (H : Hp) : Prop := ∀ H1, Same H H1 → ∀ Q : Option Int → Hp → Prop, (∀ H2 o, Same H1 H2 → Q o H2) → to σ H1 Q
def Yt (tt : TT) (σ : L2.St) (H : Hp) : Prop := ∀ H1, Same H H1 → ∀ Q : Bool → Hp → Prop, (∀ H2 b, Same H1 H2 → Q b H2) → tt σ H1 Q
def AnyD (K : PySem.W.Frag) : Hp → V → Prop := fun H y => ∃ d, Th K H y d
def TupD (K : PySem.W.Frag) (n : Nat) : Hp → V → Prop := fun H y => ∃ ds, ds.length ≤ n ∧ Th K H y (.tuple ds)
def LstD (K : PySem.W.Frag) (n : Nat) : Hp → V → Prop := fun H y => ∃ ds, ds.length ≤ n ∧ Th K H y (.list ds)
def LstE (K : PySem.W.Frag) (n : Nat) : Hp → V → Prop := fun H y => ∃ ds, ds.length = n ∧ Th K H y (.list ds)
def AllD (K : PySem.W.Frag) (n : Nat) : Hp → List V → Prop := fun H ys => ∃ ds, ds.length = n ∧ ThAll K H ys ds
def IntD (P : Int → Prop) : Hp → V → Prop := fun _ y => ∃ i, y = .int i ∧ P i
section
variable {K : PySem.W.Frag} {σ : L2.St} {H : Hp} {te ta tb : TE} {R R' : Hp → V → Prop}
theorem Ye.at (h : Ye R te σ H) {H1 : Hp} (S : Same H H1) {Q : VK} (q : ∀ H2 y, Same H1 H2 → R H2 y → Q y H2) : te σ H1 Q := h H1 S Q q
theorem Ye.same (h : Ye R te σ H) {H1 : Hp} (S : Same H H1) : Ye R te σ H1 := fun H2 S2 => h H2 (S.trans S2)
theorem Ye.weak (h : Ye R te σ H) (w : ∀ H y, R H y → R' H y) : Ye R' te σ H := fun H1 S Q q => h H1 S Q fun H2 y S2 r => q H2 y S2 (w _ _ r)
theorem Ye.tup {n : Nat} (h : Ye (TupD K n) te σ H) : Ye (AnyD K) te σ H := h.weak fun _ _ ⟨ds, _, t⟩ => ⟨_, t⟩
theorem Ye.lst {n : Nat} (h : Ye (LstD K n) te σ H) : Ye (AnyD K) te σ H := h.weak fun _ _ ⟨ds, _, t⟩ => ⟨_, t⟩
theorem Ye.lstE {n : Nat} (h : Ye (LstE K n) te σ H) : Ye (AnyD K) te σ H := h.weak fun _ _ ⟨ds, _, t⟩ => ⟨_, t⟩
theorem Ye.exact {n : Nat} (h : Ye (LstE K n) te σ H) : Ye (LstD K n) te σ H := h.weak fun _ _ ⟨ds, e, t⟩ => ⟨_, Nat.le_of_eq e, t⟩
theorem Ye.int {P : Int → Prop} (h : Ye (IntD P) te σ H) : Ye (AnyD K) te σ H := h.weak fun _ _ ⟨i, e, _⟩ => ⟨.int i, by rw [e]; exact .int i⟩
theorem grow_any : Grow (AnyD K) := fun _ _ _ S ⟨d, t⟩ => ⟨d, t.same S⟩
theorem grow_tup {n : Nat} : Grow (TupD K n) := fun _ _ _ S ⟨d, e, t⟩ => ⟨d, e, t.same S⟩
theorem grow_lst {n : Nat} : Grow (LstD K n) := fun _ _ _ S ⟨d, e, t⟩ => ⟨d, e, t.same S⟩
theorem grow_lstE {n : Nat} : Grow (LstE K n) := fun _ _ _ S ⟨d, e, t⟩ => ⟨d, e, t.same S⟩
theorem ye_var {i : Nat} {v : V} (hm : Grow R) (e : σ[i]? = some (some v)) (h : R H v) : Ye R (tVar i) σ H := fun H1 S Q q => ⟨v, e, q H1 v (Same.refl _) (hm _ _ _ S h)⟩
theorem ye_vI {i : Nat} {z : Int} {P : Int → Prop} (e : σ[i]? = some (some (.int z))) (h : P z) : Ye (IntD P) (tVar i) σ H := fun H1 S Q q => ⟨_, e, q H1 _ (Same.refl _) ⟨z, rfl, h⟩⟩
theorem ye_i {z : Int} {P : Int → Prop} (h : P z) : Ye (IntD P) (tC (.int z)) σ H := fun H1 _ Q q => q H1 _ (Same.refl _) ⟨z, rfl, h⟩
theorem ye_ci {z : Int} : Ye (AnyD K) (tC (.int z)) σ H := fun H1 _ Q q => q H1 _ (Same.refl _) ⟨_, .int z⟩
theorem ye_cb {z : Bool} : Ye (AnyD K) (tC (.bl z)) σ H := fun H1 _ Q q => q H1 _ (Same.refl _) ⟨_, .bl z⟩
theorem ye_cn : Ye (AnyD K) (tC .non) σ H := fun H1 _ Q q => q H1 _ (Same.refl _) ⟨_, .non⟩
theorem ye_cs {z : Str} : Ye (AnyD K) (tC (.str z)) σ H := fun H1 _ Q q => q H1 _ (Same.refl _) ⟨_, .str z⟩
theorem ye_neg {P P' : Int → Prop} (h : Ye (IntD P) te σ H) (hp : ∀ i, P i → P' (-i)) : Ye (IntD P') (tUn (rU fun i => .int (-i)) te) σ H := fun H1 S Q q => h H1 S _ fun H2 y S2 ⟨i, e, p⟩ => ⟨i, e, q H2 _ S2 ⟨_, rfl, hp i p⟩⟩
theorem ye_I0 {f : Int → Int → Int} {P P1 P2 : Int → Prop} (ha : Ye (IntD P1) ta σ H) (hb : Ye (IntD P2) tb σ H) (hp : ∀ i j, P1 i → P2 j → P (f i j)) : Ye (IntD P) (tOp (rI0 fun i j => .int (f i j)) ta tb) σ H :=
  fun H1 S Q q => ha H1 S _ fun H2 y S2 ⟨i, e, p1⟩ => hb H2 (S.trans S2) _ fun H3 z S3 ⟨j, e2, p2⟩ => ⟨i, j, e, e2, q H3 _ (S2.trans S3) ⟨_, rfl, hp i j p1 p2⟩⟩
theorem ye_I {C : Int → Int → Prop} {f : Int → Int → Int} {P P1 P2 : Int → Prop} (ha : Ye (IntD P1) ta σ H) (hb : Ye (IntD P2) tb σ H) (hp : ∀ i j, P1 i → P2 j → C i j ∧ P (f i j)) : Ye (IntD P) (tOp (rI C fun i j => .int (f i j)) ta tb) σ H :=
  fun H1 S Q q => ha H1 S _ fun H2 y S2 ⟨i, e, p1⟩ => hb H2 (S.trans S2) _ fun H3 z S3 ⟨j, e2, p2⟩ => ⟨i, j, e, e2, (hp i j p1 p2).1, q H3 _ (S2.trans S3) ⟨_, rfl, (hp i j p1 p2).2⟩⟩
theorem ye_mod {n : Int} {P : Int → Prop} (h : Ye (IntD P) te σ H) (hn : 0 < n) : Ye (IntD fun i => 0 ≤ i ∧ i < n) (tOp (rI (fun _ j => 0 < j) fun i j => .int (i % j)) te (tC (.int n))) σ H :=
  ye_I h (ye_i (P := fun j => j = n) rfl) fun i j _ e => by subst e; exact ⟨hn, Int.emod_nonneg _ (by omega), Int.emod_lt_of_pos _ hn⟩
theorem ye_pow {a b : Int} (h : CPow a b) : Ye (IntD fun _ => True) (tOp (rI CPow fun i j => .int (i ^ j.toNat)) (tC (.int a)) (tC (.int b))) σ H :=
  ye_I (ye_i (P := fun j => j = a) rfl) (ye_i (P := fun j => j = b) rfl) fun i j e1 e2 => by subst e1 e2; exact ⟨h, trivial⟩
theorem ye_dict : Ye (AnyD K) tDNewK σ H := fun H1 S Q q p hp => q _ _ (same_upd hp) ⟨_, .dic upd_same⟩
theorem ya_nil : Ya (AllD K 0) tNil σ H := fun H1 _ Q q => q H1 _ (Same.refl _) ⟨[], rfl, .nil⟩
theorem ya_cons {n : Nat} {ts : TA} (he : Ye (AnyD K) te σ H) (ha : Ya (AllD K n) ts σ H) : Ya (AllD K (n + 1)) (tCons te ts) σ H :=
  fun H1 S Q q => he H1 S _ fun H2 y S2 ⟨d, t⟩ => ha H2 (S.trans S2) _ fun H3 ys S3 ⟨ds, e, ts⟩ => q H3 _ (S2.trans S3) ⟨d :: ds, by rw [List.length_cons, e], .cons (t.same S3) ts⟩
theorem ye_lst {n : Nat} {ts : TA} (ha : Ya (AllD K n) ts σ H) (hn : n ≤ 100000 := by decide) : Ye (LstE K n) (tLst ts) σ H :=
  fun H1 S Q q => ha H1 S _ fun H2 ys S2 ⟨ds, e, t⟩ => ⟨sz100 (by rw [t.length, e]; exact hn), fun p hp => q _ _ (S2.trans (same_upd hp)) ⟨ds, e, .lst (SqL.of upd_same) (t.same (same_upd hp))⟩⟩
theorem ye_tup {n : Nat} {ts : TA} (ha : Ya (AllD K n) ts σ H) (hn : n ≤ 100000 := by decide) : Ye (TupD K n) (tTup ts) σ H :=
  fun H1 S Q q => ha H1 S _ fun H2 ys S2 ⟨ds, e, t⟩ => ⟨sz100 (by rw [t.length, e]; exact hn), fun p hp => q _ _ (S2.trans (same_upd hp)) ⟨ds, Nat.le_of_eq e, .tup (SqT.of upd_same) (t.same (same_upd hp))⟩⟩
theorem ye_ixE {n : Nat} {m : Int} (ha : Ye (LstE K n) ta σ H) (hb : Ye (IntD fun i => 0 ≤ i ∧ i < m) tb σ H) (hm : m ≤ (n : Int) := by decide) : Ye (AnyD K) (tOp (rIxL K) ta tb) σ H := by
  refine fun H1 S Q q => ha H1 S _ fun H2 y S2 ⟨ds, e, t⟩ => hb H2 (S.trans S2) _ fun H3 z S3 ⟨j, e2, p1, p2⟩ => ?_
  subst e2
  have t3 := t.same S3
  cases t3 with
  | @lst a xs _ hs ha =>
    have hl := ha.length
    have hj : xs[j.toNat]? = some xs[j.toNat] := List.getElem?_eq_getElem (by omega)
    obtain ⟨d, _, hd⟩ := ha.get hj
    exact ⟨a, xs, j, _, rfl, rfl, hs, atI_of p1 hj, q H3 _ (S2.trans S3) ⟨d, hd⟩⟩
theorem ye_dig {k : Nat} {pd : Addr} {fs : List Int} {i : Nat} {f : Int} (e : σ[k]? = some (some (.ref pd))) (h : SqL K H pd (fs.map V.int)) (hf : fs[i]? = some f) : Ye (IntD fun z => z = f) (tOp (rIxL K) (tVar k) (tC (.int (i : Int)))) σ H :=
  fun H1 S Q q => ⟨_, e, ⟨pd, fs.map V.int, (i : Int), .int f, rfl, rfl, S.seq h, atI_nat (by rw [List.getElem?_map, hf]; rfl), q H1 _ (Same.refl _) ⟨f, rfl, rfl⟩⟩⟩
theorem yo_none : Yo tNoPart σ H := fun H1 _ Q q => q H1 _ (Same.refl _)
theorem yo_some {P : Int → Prop} (h : Ye (IntD P) te σ H) : Yo (tPart te) σ H := fun H1 S Q q => h H1 S _ fun H2 y S2 ⟨i, e, _⟩ => ⟨i, e, q H2 _ S2⟩
theorem thAll_cut {H : Hp} {xs : List V} {ds : List PyData} (h : ThAll K H xs ds) (a b : Nat) : ThAll K H ((xs.drop a).take b) ((ds.drop a).take b) := (h.drop a).take b
theorem ye_slT {n : Nat} {tl th : TO} (h : Ye (TupD K n) te σ H) (hl : Yo tl σ H) (hh : Yo th σ H) : Ye (TupD K n) (tSl (rSlA K) te tl th) σ H := by
  refine fun H1 S Q q => h H1 S _ fun H2 y S2 ⟨ds, e, t⟩ => hl H2 (S.trans S2) _ fun H3 lo S3 => hh H3 (S.trans (S2.trans S3)) _ fun H4 hi S4 => ?_
  have S24 := S2.trans (S3.trans S4)
  have t3 := t.same (S3.trans S4)
  cases t3 with
  | @tup a xs _ hs ha =>
    refine ⟨a, xs, rfl, hs, fun _ => q _ _ S24 ⟨ds, e, .tup hs ha⟩, fun _ p hp => q _ _ (S24.trans (same_upd hp)) ⟨_, ?_, .tup (SqT.of upd_same) ((thAll_cut ha _ _).same (same_upd hp))⟩⟩
    rw [List.length_take, List.length_drop]
    omega
theorem ye_slL {n : Nat} {tl th : TO} (h : Ye (LstD K n) te σ H) (hl : Yo tl σ H) (hh : Yo th σ H) : Ye (LstD K n) (tSl (rSlL K) te tl th) σ H := by
  refine fun H1 S Q q => h H1 S _ fun H2 y S2 ⟨ds, e, t⟩ => hl H2 (S.trans S2) _ fun H3 lo S3 => hh H3 (S.trans (S2.trans S3)) _ fun H4 hi S4 => ?_
  have S24 := S2.trans (S3.trans S4)
  have t3 := t.same (S3.trans S4)
  cases t3 with
  | @lst a xs _ hs ha =>
    refine ⟨a, xs, rfl, hs, fun p hp => q _ _ (S24.trans (same_upd hp)) ⟨_, ?_, .lst (SqL.of upd_same) ((thAll_cut ha _ _).same (same_upd hp))⟩⟩
    rw [List.length_take, List.length_drop]
    omega
theorem thAll_app2 {H : Hp} {ys : List V} {es : List PyData} (h2 : ThAll K H ys es) : ∀ {xs : List V} {ds : List PyData}, ThAll K H xs ds → ThAll K H (xs ++ ys) (ds ++ es)
  | _, _, .nil => h2
  | _, _, .cons a b => .cons a (thAll_app2 h2 b)
theorem ye_catL {n m : Nat} (ha : Ye (LstD K n) ta σ H) (hb : Ye (LstD K m) tb σ H) (hz : n + m ≤ 100000 := by decide) : Ye (LstD K (n + m)) (tOp (rCatL K) ta tb) σ H := by
  refine fun H1 S Q q => ha H1 S _ fun H2 y S2 ⟨ds, e, t⟩ => hb H2 (S.trans S2) _ fun H3 z S3 ⟨es, e2, t2⟩ => ?_
  have t3 := t.same S3
  cases t3 with
  | @lst a xs _ hs ha =>
    cases t2 with
    | @lst b ys _ hs2 ha2 =>
      refine ⟨a, b, xs, ys, rfl, rfl, hs, hs2, sz100 (by rw [ha.length, ha2.length]; omega), fun p hp => q _ _ ((S2.trans S3).trans (same_upd hp)) ⟨ds ++ es, by rw [List.length_append]; omega, .lst (SqL.of upd_same) ((thAll_app2 ha2 ha).same (same_upd hp))⟩⟩
theorem ye_catE {n m : Nat} (ha : Ye (LstE K n) ta σ H) (hb : Ye (LstE K m) tb σ H) (hz : n + m ≤ 100000 := by decide) : Ye (LstE K (n + m)) (tOp (rCatL K) ta tb) σ H := by
  refine fun H1 S Q q => ha H1 S _ fun H2 y S2 ⟨ds, e, t⟩ => hb H2 (S.trans S2) _ fun H3 z S3 ⟨es, e2, t2⟩ => ?_
  have t3 := t.same S3
  cases t3 with
  | @lst a xs _ hs ha =>
    cases t2 with
    | @lst b ys _ hs2 ha2 =>
      refine ⟨a, b, xs, ys, rfl, rfl, hs, hs2, sz100 (by rw [ha.length, ha2.length]; omega), fun p hp => q _ _ ((S2.trans S3).trans (same_upd hp)) ⟨ds ++ es, by rw [List.length_append]; omega, .lst (SqL.of upd_same) ((thAll_app2 ha2 ha).same (same_upd hp))⟩⟩
theorem ye_catT {n m : Nat} (ha : Ye (TupD K n) ta σ H) (hb : Ye (TupD K m) tb σ H) (hz : n + m ≤ 100000 := by decide) : Ye (TupD K (n + m)) (tOp (rCatA K) ta tb) σ H := by
  refine fun H1 S Q q => ha H1 S _ fun H2 y S2 ⟨ds, e, t⟩ => hb H2 (S.trans S2) _ fun H3 z S3 ⟨es, e2, t2⟩ => ?_
  have t3 := t.same S3
  cases t3 with
  | @tup a xs _ hs ha =>
    cases t2 with
    | @tup b ys _ hs2 ha2 =>
      refine ⟨a, b, xs, ys, rfl, rfl, hs, hs2, sz100 (by rw [ha.length, ha2.length]; omega), fun _ => q _ _ (S2.trans S3) ⟨es, by omega, .tup hs2 ha2⟩, fun _ _ => q _ _ (S2.trans S3) ⟨ds, by omega, .tup hs ha⟩, fun _ _ p hp => q _ _ ((S2.trans S3).trans (same_upd hp)) ⟨ds ++ es, by rw [List.length_append]; omega, .tup (SqT.of upd_same) ((thAll_app2 ha2 ha).same (same_upd hp))⟩⟩
theorem thAll_pick {H : Hp} {xs : List V} {ds : List PyData} (r : ThAll K H xs ds) : ∀ is : List Nat, ThAll K H (is.filterMap (xs[·]?)) (is.filterMap (ds[·]?))
  | [] => .nil
  | i :: is => by
    have ih := thAll_pick r is
    have hl := r.length
    by_cases hi : i < xs.length
    · obtain ⟨d, e2, r2⟩ := r.get (List.getElem?_eq_getElem hi)
      rw [List.filterMap_cons_some (List.getElem?_eq_getElem hi), List.filterMap_cons_some e2]
      exact .cons r2 ih
    · rw [List.filterMap_cons_none (List.getElem?_eq_none (by omega)), List.filterMap_cons_none (List.getElem?_eq_none (by omega))]
      exact ih
theorem ye_backT {n : Nat} (h : Ye (TupD K n) te σ H) : Ye (TupD K n) (tBackT K te tNoPart tNoPart (tPart (tUn (rU fun i => .int (-i)) (tC (.int 1))))) σ H := by
  refine fun H1 S Q q => h H1 S _ fun H2 y S2 ⟨ds, e, t⟩ => ⟨1, rfl, _, rfl, ?_⟩
  cases t with
  | @tup a xs _ hs ha =>
    refine ⟨a, xs, rfl, hs, rfl, rfl, rfl, fun p hp => q _ _ (S2.trans (same_upd hp)) ⟨backV ds, by rw [backV_length]; exact e, .tup (SqT.of upd_same) ?_⟩⟩
    have := thAll_pick ha ((List.range xs.length).map fun (k : Nat) => ((xs.length : Int) - 1 + (k : Int) * -1).toNat)
    unfold backV
    rw [← ha.length]
    exact this.same (same_upd hp)
theorem ye_listOf {n : Nat} (h : Ye (TupD K n) te σ H) : Ye (LstD K n) (tCB (rListOf K) (tCons te tNil)) σ H := by
  refine fun H1 S Q q => h H1 S _ fun H2 y S2 ⟨ds, e, t⟩ => ?_
  cases t with
  | tup hs ha =>
    exact ⟨_, _, rfl, .inr hs, fun l hl => q _ _ (S2.trans (same_upd hl)) ⟨ds, e, .lst (SqL.of upd_same) (ha.same (same_upd hl))⟩⟩
def rTupOf (K : PySem.W.Frag) : List V → Hp → VK → Prop := fun xs H Q => ∃ p ys, xs = [.ref p] ∧ ((SqL K H p ys ∧ ∀ l, H l = none → Q (.ref l) (upd H l (.tup ys))) ∨ (SqT K H p ys ∧ Q (.ref p) H))
theorem call_tupOf {X : Cx} : CallR X (.type "tuple") (rTupOf X.K) := call_tuple_of
theorem ye_tupOf {n : Nat} (h : Ye (LstD K n) te σ H) : Ye (TupD K n) (tCB (rTupOf K) (tCons te tNil)) σ H := by
  refine fun H1 S Q q => h H1 S _ fun H2 y S2 ⟨ds, e, t⟩ => ?_
  cases t with
  | lst hs ha =>
    exact ⟨_, _, rfl, .inl ⟨hs, fun l hl => q _ _ (S2.trans (same_upd hl)) ⟨ds, e, .tup (SqT.of upd_same) (ha.same (same_upd hl))⟩⟩⟩
def LstT (K : PySem.W.Frag) (n : Nat) : Hp → V → Prop := fun H y => ∃ a xs ds, y = .ref a ∧ H a = some (.lst xs) ∧ ThAll K H xs ds ∧ ds.length ≤ n
theorem grow_lstT {n : Nat} : Grow (LstT K n) := fun _ _ _ S ⟨a, xs, ds, e, h, t, l⟩ => ⟨a, xs, ds, e, S _ _ h, t.same S, l⟩
theorem Ye.trk {n : Nat} (h : Ye (LstT K n) te σ H) : Ye (LstD K n) te σ H := h.weak fun _ _ ⟨a, xs, ds, e, h, t, l⟩ => ⟨ds, l, by rw [e]; exact .lst (SqL.of h) t⟩
theorem ye_slLT {n : Nat} {tl th : TO} (h : Ye (LstD K n) te σ H) (hl : Yo tl σ H) (hh : Yo th σ H) : Ye (LstT K n) (tSl (rSlL K) te tl th) σ H := by
  refine fun H1 S Q q => h H1 S _ fun H2 y S2 ⟨ds, e, t⟩ => hl H2 (S.trans S2) _ fun H3 lo S3 => hh H3 (S.trans (S2.trans S3)) _ fun H4 hi S4 => ?_
  have S24 := S2.trans (S3.trans S4)
  have t3 := t.same (S3.trans S4)
  cases t3 with
  | @lst a xs _ hs ha =>
    refine ⟨a, xs, rfl, hs, fun p hp => q _ _ (S24.trans (same_upd hp)) ⟨p, _, _, rfl, upd_same, (thAll_cut ha _ _).same (same_upd hp), ?_⟩⟩
    rw [List.length_take, List.length_drop]
    omega
theorem thAll_rep {H : Hp} {vs : List V} {ds : List PyData} (h : ThAll K H vs ds) : ∀ n : Nat, ThAll K H (List.replicate n vs).flatten (List.replicate n ds).flatten
  | 0 => .nil
  | n + 1 => by
    rw [List.replicate_succ, List.replicate_succ, List.flatten_cons, List.flatten_cons]
    exact thAll_app2 (thAll_rep h n) h
theorem len_rep {α : Type} (xs : List α) : ∀ k : Nat, (List.replicate k xs).flatten.length = xs.length * k
  | 0 => rfl
  | k + 1 => by
    rw [List.replicate_succ, List.flatten_cons, List.length_append, len_rep xs k, Nat.mul_succ, Nat.add_comm]
theorem ye_rep {n k : Nat} (h : Ye (LstT K n) te σ H) (hz : n * k ≤ 100000 := by decide) (hk : (k : Int) < 2 ^ 63 := by decide) : Ye (LstT K (n * k)) (tOp rRep te (tC (.int (k : Int)))) σ H := by
  refine fun H1 S Q q => h H1 S _ fun H2 y S2 ⟨a, xs, ds, e, h, t, l⟩ => ?_
  subst e
  have hl := t.length
  have hz' : ds.length * k ≤ n * k := Nat.mul_le_mul_right k l
  refine ⟨a, _, xs, rfl, rfl, h, by omega, hk, sz100 (by rw [Int.toNat_natCast, hl]; omega), fun p hp => q _ _ (S2.trans (same_upd hp)) ⟨p, _, _, rfl, upd_same, (thAll_rep t _).same (same_upd hp), ?_⟩⟩
  rw [Int.toNat_natCast, len_rep]
  exact hz'
theorem ye_add {P1 P2 : Int → Prop} (ha : Ye (IntD P1) ta σ H) (hb : Ye (IntD P2) tb σ H) : Ye (IntD fun _ => True) (tOp (rI0 fun i j => .int (i + j)) ta tb) σ H := ye_I0 ha hb fun _ _ _ _ => trivial
theorem ye_call {sp : Sp} {ts : TA} {Rs : Hp → List V → Prop} (ha : Ya Rs ts σ H) (hs : ∀ H1 vs Q, Same H H1 → Rs H1 vs → (∀ H2 y, Same H1 H2 → R H2 y → Q y H2) → sp (vs ++ []) H1 Q E0) : Ye R (tCall sp [] E0 ts) σ H :=
  fun H1 S Q q => ha H1 S _ fun H2 ys S2 h => hs H2 ys Q (S.trans S2) h fun H3 y S3 r => q H3 y (S2.trans S3) r
theorem yt_cmp {g : Int → Int → Bool} {P1 P2 : Int → Prop} (ha : Ye (IntD P1) ta σ H) (hb : Ye (IntD P2) tb σ H) : Yt (tTest (tOp (rI0 fun i j => .bl (g i j)) ta tb)) σ H :=
  fun H1 S Q q => ha H1 S _ fun H2 y S2 ⟨i, e, _⟩ => hb H2 (S.trans S2) _ fun H3 z S3 ⟨j, e2, _⟩ => ⟨i, j, e, e2, _, rfl, q H3 _ (S2.trans S3)⟩
theorem yt_eq {P1 P2 : Int → Prop} (ha : Ye (IntD P1) ta σ H) (hb : Ye (IntD P2) tb σ H) : Yt (tTest (tOp rEq ta tb)) σ H :=
  fun H1 S Q q => ha H1 S _ fun H2 y S2 ⟨i, e, _⟩ => hb H2 (S.trans S2) _ fun H3 z S3 ⟨j, e2, _⟩ => ⟨by rw [e, e2]; rfl, _, rfl, q H3 _ (S2.trans S3)⟩
/-! ### rows of a block, one by one -/
section
variable {A B C : TS} {D : Ends} {tt : TT}
theorem s_asg {i : Nat} (h : Ye R te σ H) (k : ∀ H2 y, Same H H2 → R H2 y → B D (σ.set i (some y)) H2) : tSeq (tAsg te (gName i)) B D σ H := h H (Same.refl _) _ fun H2 y S r => k H2 y S r
theorem s_ret (h : Ye R te σ H) (k : ∀ H2 y, Same H H2 → R H2 y → D.rt y H2) : tRet te D σ H := h H (Same.refl _) _ fun H2 y S r => k H2 y S r
theorem s_if (h : Yt tt σ H) (k1 : ∀ H2, Same H H2 → A { D with nx := C D } σ H2) (k2 : ∀ H2, Same H H2 → C D σ H2) : tSeq (tIfS tt A tNext) C D σ H := h H (Same.refl _) _ fun H2 b S => by
  cases b with
  | true => exact k1 H2 S
  | false => exact k2 H2 S
theorem s_unp2 {i a b : Nat} {p : Addr} {x y : V} (e : σ[i]? = some (some (.ref p))) (h : SqT K H p [x, y]) (k : C D ((σ.set a (some x)).set b (some y)) H) : tSeq (tAsg (tVar i) (gTup K 2 (gCons (gName a) (gCons (gName b) gNil)))) C D σ H := ⟨_, e, ⟨p, _, rfl, h, rfl, ⟨_, _, rfl, _, _, rfl, rfl, k⟩⟩⟩
theorem s_unp3 {i a b c : Nat} {p : Addr} {x y z : V} (e : σ[i]? = some (some (.ref p))) (h : SqT K H p [x, y, z]) (k : C D (((σ.set a (some x)).set b (some y)).set c (some z)) H) : tSeq (tAsg (tVar i) (gTup K 3 (gCons (gName a) (gCons (gName b) (gCons (gName c) gNil))))) C D σ H := ⟨_, e, ⟨p, _, rfl, h, rfl, ⟨_, _, rfl, _, _, rfl, _, _, rfl, rfl, k⟩⟩⟩
end
end
end Bk

namespace Bk
open PySem PySem.Spec PyProof.Rows L2
/-! ### max(xs, default=d) of a list of ints -/
theorem args_mxd (x d : Value) : argsOk "max" ⟨[x], [(Str.ofString "default", d)]⟩ := by unfold argsOk; kernel_rfl
section
variable {prog : Program} {w : World} {A : Around} {E : Value → Shared → Prop} {s : Shared}
theorem call_kwTree {id : String} {f : Builtin} {xs : List Value} {kw : List (Str × Value)} {Q : Value → Shared → Prop} (h1 : builtinKind id = none) (h2 : plainId id = true) (h3 : entryFor table id = some f) (h4 : argsOk id ⟨xs, kw⟩)
    (go : wpAny (model prog w) A.in1 (f ⟨xs, kw⟩) (fun z t => match z with
      | .done u => (match (Except.ok u : Result) with | .ok (.ret y) => Q y t | .ok _ => False | .error x => E x t)
      | .again c => c.quiet = true ∧ codeAny (model prog w) A c (fun u t => match u with | .ok (.ret y) => Q y t | .ok _ => False | .error x => E x t) t) E s) : wpAny (model prog w) A (call (.builtin id) xs kw) Q E s := by
  refine wpAny_call (codeAny_call_builtin h2 h3 ?_)
  simp only [checkBuiltinCall, h1]
  cases g : Manifest.signature? id with
  | none => exact wpAny_pure go
  | some sg =>
    have h5 : Bind.checkArgs id sg ⟨xs, kw⟩ = pure () := by simpa only [argsOk, g] using h4
    simp only [h5]
    exact wpAny_pure go
variable {R : Result → Shared → Prop} {J : Addr} {fp wr : List Addr} {n : Nat} {P : Nat → Value → Prop} {St : Nat → Heap → Prop} {kw : List (Str × Value)}
theorem mxd_go (W : Walks prog w A.in1 J fp wr n P St) (bt : Nat → Nat → Bool) (cmp : CmpOf prog w A.in1 .Gt P bt) (L : Addr) (nf : L ∉ fp) : ∀ (k j : Nat) (s : Shared) (vb : Value) (c : Nat), n - (j + 1) = k → j + 1 ≤ n → St (j + 1) s.heap → P (argBest bt j) vb →
    s.heap.get? L = some { cls := .type "list", dict := none, data := .seq #[vb, vb] c, slots := #[] } → (∀ y h' tk, P (argBest bt (n - 1)) y → (∀ b o, b ∉ wr → b ≠ L → s.heap.get? b = some o → h'.get? b = some o) → R (.ok (.ret y)) { s with heap := h', toks := tk }) →
    codeAny (model prog w) A (.builtin "max.loop" ⟨[.ref J, .none, .ref L], kw⟩) R s := by
  have nw : L ∉ wr := fun z => nf (W.sub _ z)
  have nm : (toString "max" ++ toString ".loop" : String) = "max.loop" := by decide
  intro k
  induction k with
  | zero =>
    intro j s vb c ek ej es eb eL go
    have en : j + 1 = n := by omega
    refine codeAny_builtin F.entry_max_loop ?_; rw [Around.under_plainId F.plain_max_loop _]
    show wpAny _ A.in1 (seqItems? (.ref L) >>= _) _ _ s; refine wpAny_bind (wpAny_seqItems eL rfl ?_)
    show wpAny _ A.in1 (tryCatch (pyNext (.ref J)) _ >>= _) _ _ s; refine wpAny_bind (wpAny_tryCatch (W.done s _ _ (en ▸ es) fun h' tk kp => ?_))
    have eL' := kp L _ nw eL
    show wpAny _ A.in1 (updateSeq L (fun _ => #[]) >>= _) _ _ _; refine wpAny_bind ?_
    refine wpAny_updateSeq eL' rfl (wpAny_bind (wpAny_letGo (wpAny_pure ?_))); refine go vb _ tk (by rw [← en]; exact eb) fun b o z1 z2 e => (Heap.get?_update_other _ _ (Ne.symm z2)).trans (kp b o z1 e)
  | succ k ih =>
    intro j s vb c ek ej es eb eL go
    have lt : j + 1 < n := by omega
    refine codeAny_builtin F.entry_max_loop ?_; rw [Around.under_plainId F.plain_max_loop _]
    show wpAny _ A.in1 (seqItems? (.ref L) >>= _) _ _ s; refine wpAny_bind (wpAny_seqItems eL rfl ?_)
    show wpAny _ A.in1 (tryCatch (pyNext (.ref J)) _ >>= _) _ _ s; refine wpAny_bind (wpAny_tryCatch (W.item (j + 1) s _ _ lt es fun y h' tk ep es' kp => ?_))
    have eL' := kp L _ nw eL
    show wpAny _ A.in1 (tryCatch (holding [y, y] (richCompare .Gt y vb >>= _)) _ >>= _) _ _ _; refine wpAny_bind (wpAny_tryCatch (wpAny_holding (wpAny_bind (cmp (j + 1) (argBest bt j) y vb _ _ _ ep eb ?_))))
    refine wpAny_bind (wpAny_holding (wpAny_truthy_bool ?_)); refine wpAny_bind (wpAny_letGo (wpAny_pure ?_))
    cases yes : bt (j + 1) (argBest bt j) with
    | true =>
      simp only [if_true]; refine wpAny_bind ?_
      refine wpAny_updateSeq eL' rfl (wpAny_bind (wpAny_letGo ?_)); rw [nm]
      refine wpAny_pure ⟨plainId_quiet F.plain_max_loop _, ih (j + 1) _ y _ (by omega) lt (W.frame _ _ _ es' fun b zb o e => (Heap.get?_update_other _ _ (fun z : L = b => nf (by rw [z]; exact zb))).trans e) (by simp only [argBest, yes, if_true]; exact ep) (Heap.get?_update_self _ eL' rfl) fun y' h2 tk2 ep2 kp2 => ?_⟩
      exact go y' h2 tk2 ep2 fun b o z1 z2 e => kp2 b o z1 z2 ((Heap.get?_update_other _ _ (Ne.symm z2)).trans (kp b o z1 e))
    | false =>
      simp only [Bool.false_eq_true, if_false]; refine wpAny_bind (wpAny_letGo ?_); rw [nm]
      refine wpAny_pure ⟨plainId_quiet F.plain_max_loop _, ih (j + 1) _ vb c (by omega) lt es' (by simp only [argBest, yes, Bool.false_eq_true, if_false]; exact eb) eL' fun y' h2 tk2 ep2 kp2 => ?_⟩
      exact go y' h2 tk2 ep2 fun b o z1 z2 e => kp2 b o z1 z2 (kp b o z1 e)
theorem mxd_first (W : Walks prog w A.in1 J fp wr n P St) (bt : Nat → Nat → Bool) (cmp : CmpOf prog w A.in1 .Gt P bt) (L : Addr) (nf : L ∉ fp) (hn : 0 < n) {s : Shared} {c : Nat} (es : St 0 s.heap) (eL : s.heap.get? L = some { cls := .type "list", dict := none, data := .seq #[] c, slots := #[] })
    (go : ∀ y h' tk, P (argBest bt (n - 1)) y → (∀ b o, b ∉ wr → b ≠ L → s.heap.get? b = some o → h'.get? b = some o) → R (.ok (.ret y)) { s with heap := h', toks := tk }) : codeAny (model prog w) A (.builtin "max.loop" ⟨[.ref J, .none, .ref L], kw⟩) R s := by
  have nw : L ∉ wr := fun z => nf (W.sub _ z)
  have nm : (toString "max" ++ toString ".loop" : String) = "max.loop" := by decide
  refine codeAny_builtin F.entry_max_loop ?_; rw [Around.under_plainId F.plain_max_loop _]
  show wpAny _ A.in1 (seqItems? (.ref L) >>= _) _ _ s; refine wpAny_bind (wpAny_seqItems eL rfl ?_)
  show wpAny _ A.in1 (tryCatch (pyNext (.ref J)) _ >>= _) _ _ s; refine wpAny_bind (wpAny_tryCatch (W.item 0 s _ _ hn es fun y h' tk ep es' kp => ?_))
  have eL' := kp L _ nw eL
  show wpAny _ A.in1 (updateSeq L (fun _ => #[y, y]) >>= _) _ _ _; refine wpAny_bind ?_
  refine wpAny_updateSeq eL' rfl ?_; rw [nm]
  refine wpAny_pure ⟨plainId_quiet F.plain_max_loop _, mxd_go W bt cmp L nf _ 0 _ y _ rfl hn (W.frame _ _ _ es' fun b zb o e => (Heap.get?_update_other _ _ (fun z : L = b => nf (by rw [z]; exact zb))).trans e) ep (Heap.get?_update_self _ eL' rfl) fun y' h2 tk2 ep2 kp2 => ?_⟩
  exact go y' h2 tk2 ep2 fun b o z1 z2 e => kp2 b o z1 z2 ((Heap.get?_update_other _ _ (Ne.symm z2)).trans (kp b o z1 e))
theorem mxd_none {d : Value} (W : Walks prog w A.in1 J fp wr 0 P St) (L : Addr) (nf : L ∉ fp) {s : Shared} {c : Nat} (es : St 0 s.heap) (eL : s.heap.get? L = some { cls := .type "list", dict := none, data := .seq #[] c, slots := #[] })
    (go : ∀ h' tk, (∀ b o, b ∉ wr → s.heap.get? b = some o → h'.get? b = some o) → R (.ok (.ret d)) { s with heap := h', toks := tk }) : codeAny (model prog w) A (.builtin "max.loop" ⟨[.ref J, .none, .ref L], [(Str.ofString "default", d)]⟩) R s := by
  refine codeAny_builtin F.entry_max_loop ?_; rw [Around.under_plainId F.plain_max_loop _]
  show wpAny _ A.in1 (seqItems? (.ref L) >>= _) _ _ s; refine wpAny_bind (wpAny_seqItems eL rfl ?_)
  show wpAny _ A.in1 (tryCatch (pyNext (.ref J)) _ >>= _) _ _ s; refine wpAny_bind (wpAny_tryCatch (W.done s _ _ es fun h' tk kp => ?_))
  show wpAny _ A.in1 (rule _ >>= _) _ _ _
  exact wpAny_bind (wpAny_rule (wpAny_pure (go h' tk kp)))
theorem mxd_ints {l : Addr} {xs : Array (Int × Tok)} {d : Value} {Q : Value → Shared → Prop} (hh : A.handled = none) (hl : s.heap.IsList l (intItems xs))
    (h0 : xs.size = 0 → ∀ h' tk, (∀ b o, s.heap.get? b = some o → h'.get? b = some o) → Q d { s with heap := h', toks := tk })
    (h1 : 0 < xs.size → ∀ v h' tk, (intItems xs)[argBest (fun i j => decide (numAt xs i > numAt xs j)) (xs.size - 1)]? = some v → (∀ b o, s.heap.get? b = some o → h'.get? b = some o) → Q v { s with heap := h', toks := tk }) :
    wpAny (model prog w) A (call (.builtin "max") [.ref l] [(Str.ofString "default", d)]) Q E s := by
  have nm : (toString "max" ++ toString ".loop" : String) = "max.loop" := by decide
  refine call_kwTree F.kind_max F.plain_max F.entry_max (args_mxd _ _) ?_
  show wpAny _ A.in1 (Builtin.Builtins.bindParams "max" ["key", "default"] 0 ⟨[], [(Str.ofString "default", d)]⟩ >>= _) _ _ s
  refine wpAny_bind (wpAny_of_eq (show Builtin.Builtins.bindParams "max" ["key", "default"] 0 ⟨[], [(Str.ofString "default", d)]⟩ = pure [none, some d] from rfl) ?_)
  refine wpAny_bind (wpAny_pure ?_)
  refine wpAny_bind (iter_intList hl fun s2 e st hfp hlI => ?_)
  subst e
  refine wpAny_bind (wpAny_newObj_type ?_)
  have nf : (s.heap.push { cls := .type "list_iterator", data := .fields #[.ref l, .int 0 0] }).objs.size ∉ [s.heap.objs.size, l] := fun hm => Nat.lt_irrefl _ (hfp _ hm)
  have W := Walks.list (prog := prog) (w := w) (A := A.in1) hh _ l hlI (intItems xs)
  rw [nm]
  by_cases hz : xs.size = 0
  · have hz' : (intItems xs).size = 0 := by simpa [intItems] using hz
    rw [hz'] at W
    refine wpAny_pure ⟨plainId_quiet F.plain_max_loop _, mxd_none W _ nf (W.frame _ _ _ st fun b _ o e => Heap.get?_push_of_some _ e) (Heap.get?_push_size _ rfl) fun h' tk kp => ?_⟩
    exact h0 hz h' tk (old_kept fun b o zb e => kp b o zb (Heap.get?_push_of_some _ e))
  · have hp : 0 < xs.size := Nat.pos_of_ne_zero hz
    refine wpAny_pure ⟨plainId_quiet F.plain_max_loop _, mxd_first W _ (CmpOf.ints_gt (numAt xs) (fun _ _ => intItems_at)) _ nf (by simpa [intItems] using hp) (W.frame _ _ _ st fun b _ o e => Heap.get?_push_of_some _ e) (Heap.get?_push_size _ rfl) fun v h' tk ep kp => ?_⟩
    exact h1 hp v h' tk (by simpa [intItems] using ep) (old_kept fun b o zb e => kp b o zb (Nat.ne_of_lt (Heap.lt_size e)) (Heap.get?_push_of_some _ e))
end
def rMaxD (K : PySem.W.Frag) : List V → List V → Hp → VK → Prop := fun vs zs H Q => ∃ (a : Addr) (ns : List Int) (d : Int), vs = [V.ref a] ∧ zs = [V.int d] ∧ SqL K H a (ns.map V.int) ∧ (ns = [] → Q (.int d) H) ∧ ∀ m, m ∈ ns → (∀ y, y ∈ ns → y ≤ m) → Q (.int m) H
theorem cr_maxDef {X : Cx} (hc : X.calm = true) : CallRK X (.builtin "max") [Str.ofString "default"] (rMaxD X.K) := by
  intro pins s σ H vs zs us ws Q I r rz h
  obtain ⟨a, ns, d, rfl, rfl, hs, q0, q1⟩ := h
  obtain rfl := Vals.ref1 r
  obtain ⟨its, rv, hl, hz⟩ := I.list hs
  have hi := rv.ints
  cases rz with
  | cons rd rr =>
  cases rr
  obtain ⟨t, rfl⟩ := rd
  have hl := hl.isList
  obtain ⟨xs, e⟩ := hi.allInts.items
  have hn : numsOf (intItems xs).toList = ns := by rw [← e]; exact hi.numsOf
  rw [nums_intItems] at hn
  subst hn
  rw [e] at hl
  refine mxd_ints (I.ok.hd hc) hl (fun h0 h' tk hk => ⟨.int d, H, I.kept hk, ⟨_, rfl⟩, q0 ?_⟩) (fun h0 v h' tk hv hk => ?_)
  · have : xs = #[] := Array.eq_empty_of_size_eq_zero h0
    subst this
    rfl
  · obtain ⟨t, rfl⟩ := intItems_at hv
    obtain ⟨g1, g2⟩ := argBest_gt (numAt xs) (xs.size - 1)
    refine ⟨.int _, H, I.kept hk, ⟨_, rfl⟩, q1 _ ?_ fun y hy => ?_⟩
    · rw [numAt_eq]
      exact PySem.getD_mem (by rw [List.length_map, Array.length_toList]; omega)
    · obtain ⟨j, hj, rfl⟩ := mem_getD hy
      rw [List.length_map, Array.length_toList] at hj
      rw [← numAt_eq]
      exact g2 j (by omega)
theorem rMaxD_r {K : PySem.W.Frag} {a : Addr} {d : Int} {H : Hp} {Q : VK} : rMaxD K [.ref a] [.int d] H Q = ∃ ns : List Int, SqL K H a (ns.map V.int) ∧ (ns = [] → Q (.int d) H) ∧ ∀ m, m ∈ ns → (∀ y, y ∈ ns → y ≤ m) → Q (.int m) H :=
  propext ⟨fun ⟨_, ns, _, e1, e2, h⟩ => by cases e1; cases e2; exact ⟨ns, h⟩, fun ⟨ns, h⟩ => ⟨a, ns, d, rfl, rfl, h⟩⟩
theorem rSortedI_r {K : PySem.W.Frag} {a : Addr} {H : Hp} {Q : VK} : rSortedI K [.ref a] H Q = ∃ ns : List Int, SqL K H a (ns.map V.int) ∧ ∀ (ns' : List Int) (p : Addr), ns'.Perm ns → ns'.Pairwise (· ≤ ·) → H p = none → Q (.ref p) (upd H p (.lst (ns'.map V.int))) :=
  propext ⟨fun ⟨_, ns, e, h⟩ => by cases e; exact ⟨ns, h⟩, fun ⟨ns, h⟩ => ⟨a, ns, rfl, h⟩⟩
end Bk

namespace Bk
open PySem PySem.Spec PyProof.Rows L2 RZ
/-! ### len and zip of lists or tuples -/
def rLnS (K : PySem.W.Frag) : List V → Hp → VK → Prop := fun xs H Q => ∃ p ys, xs = [.ref p] ∧ (SqL K H p ys ∨ SqT K H p ys) ∧ Q (.int ys.length) H
theorem call_lnS {X : Cx} : CallR X (.builtin "len") (rLnS X.K) := call_len_seq
theorem rLnS_r {K : PySem.W.Frag} {p : Addr} {H : Hp} {Q : VK} : rLnS K [.ref p] H Q = ∃ ys, (SqL K H p ys ∨ SqT K H p ys) ∧ Q (.int ys.length) H := propext ⟨fun ⟨a, ys, e, h⟩ => by cases e; exact ⟨ys, h⟩, fun ⟨ys, h⟩ => ⟨p, ys, rfl, h⟩⟩
def rZipA (K : PySem.W.Frag) (vs : List V) (H1 : Hp) (R : It → Hp → Prop) : Prop := ∃ a b xs ys, vs = [.ref a, .ref b] ∧ ((SqL K H1 a xs ∧ SqL K H1 b ys ∧ R (Itz K a b) H1) ∨ (SqT K H1 a xs ∧ SqT K H1 b ys ∧ R (ItzT K a b) H1))
theorem iZipA_eq {K : PySem.W.Frag} {ta : TA} {σ : L2.St} {H : Hp} {R : It → Hp → Prop} : iZipA K ta σ H R = ta σ H fun vs H1 => rZipA K vs H1 R := rfl
theorem rZipA_r {K : PySem.W.Frag} {a b : Addr} {H : Hp} {R : It → Hp → Prop} : rZipA K [.ref a, .ref b] H R = ∃ xs ys, (SqL K H a xs ∧ SqL K H b ys ∧ R (Itz K a b) H) ∨ (SqT K H a xs ∧ SqT K H b ys ∧ R (ItzT K a b) H) := propext ⟨fun ⟨_, _, xs, ys, e, h⟩ => by cases e; exact ⟨xs, ys, h⟩, fun ⟨xs, ys, h⟩ => ⟨a, b, xs, ys, rfl, h⟩⟩
theorem walk_zipT {K : PySem.W.Frag} {a b : Addr} {xs ys : List V} {n : Nat} (hn : n = min xs.length ys.length) : Walk (ItzT K a b) n (fun H => SqT K H a xs ∧ SqT K H b ys) (YPair (fun i => xs[i]?) (fun i => ys[i]?)) := by
  subst hn
  refine ⟨fun i _ hi q => ?_, fun _ q => ⟨xs, ys, q.1, q.2, by omega⟩, fun i H v H' _ q y => ?_⟩
  · have g1 : i < xs.length := by omega
    have g2 : i < ys.length := by omega
    exact ⟨xs, ys, xs[i], ys[i], q.1, q.2, by simp [g1], by simp [g2]⟩
  · obtain ⟨T, x, z, g1, g2, g3, g4, g5⟩ := y
    exact ⟨T, x, z, g1, g2, g3, g4 xs q.1, g5 ys q.2⟩
/-! ### data that is alike: so deep, no dicts -/
def sameOk : Nat → PyData → Bool
  | _, .none => true
  | _, .bool _ => true
  | _, .int _ => true
  | _, .str _ => true
  | 0, .list _ => false
  | 0, .tuple _ => false
  | k + 1, .list ds => decide (ds.length ≤ 1000) && ds.all (sameOk k)
  | k + 1, .tuple ds => decide (ds.length ≤ 1000) && ds.all (sameOk k)
  | _, .dict _ => false
theorem sameOk_opt (k : Nat) (o : Option Int) : sameOk k (optD o) = true := by cases k <;> cases o <;> rfl
theorem sameOk_int (k : Nat) (i : Int) : sameOk k (.int i) = true := by cases k <;> rfl
theorem sameOk_opts (k : Nat) (os : List (Option Int)) (h : os.length ≤ 1000) : sameOk (k + 1) (.list (os.map optD)) = true := by
  unfold sameOk
  rw [Bool.and_eq_true, decide_eq_true_eq, List.length_map, List.all_eq_true]
  refine ⟨h, fun d hd => ?_⟩
  obtain ⟨o, _, rfl⟩ := List.mem_map.mp hd
  exact sameOk_opt k o
theorem sameOk_ints (k : Nat) (ns : List Int) (h : ns.length ≤ 1000) : sameOk (k + 1) (.list (ns.map PyData.int)) = true := by
  unfold sameOk
  rw [Bool.and_eq_true, decide_eq_true_eq, List.length_map, List.all_eq_true]
  refine ⟨h, fun d hd => ?_⟩
  obtain ⟨o, _, rfl⟩ := List.mem_map.mp hd
  exact sameOk_int k o
theorem thAll_opts {K : PySem.W.Frag} {H : Hp} : ∀ l : List (Option Int), ThAll K H (l.map optV) (l.map optD)
  | [] => .nil
  | o :: r => .cons (Th.optV o) (thAll_opts r)
end Bk

namespace Bk
open PySem PySem.Spec PyProof.Rows L2
/-! ### chains of last lit days -/
def Down (os : List (Option Nat)) : Prop := ∀ (j d : Nat), os[j]? = some (some d) → d < j
def chainN (os : List (Option Nat)) : Nat → Nat → List Nat
  | 0, j => [j]
  | f + 1, j => j :: (match os[j]? with | some (some d) => chainN os f d | _ => [])
def chain (os : List (Option Nat)) (j : Nat) : List Nat := chainN os j j
section
variable {os : List (Option Nat)}
theorem chainN_zero (h : Down os) (f : Nat) : chainN os f 0 = [0] := by
  cases f with
  | zero => rfl
  | succ f =>
    unfold chainN
    split
    · rename_i d e
      have := h 0 d e
      omega
    · rfl
theorem chainN_fuel (h : Down os) : ∀ f g j, j ≤ f → j ≤ g → chainN os f j = chainN os g j
  | 0, g, j, h1, _ => by
    have : j = 0 := by omega
    subst this
    rw [chainN_zero h, chainN_zero h]
  | f + 1, 0, j, _, h2 => by
    have : j = 0 := by omega
    subst this
    rw [chainN_zero h, chainN_zero h]
  | f + 1, g + 1, j, h1, h2 => by
    unfold chainN
    split
    · rename_i d e
      have := h j d e
      rw [chainN_fuel h f g d (by omega) (by omega)]
    · rfl
theorem chain_some (h : Down os) {j d : Nat} (e : os[j]? = some (some d)) : chain os j = j :: chain os d := by
  have hd := h j d e
  unfold chain
  cases j with
  | zero => omega
  | succ j =>
    conv => lhs; unfold chainN
    rw [e]
    simp only
    rw [chainN_fuel h j d d (by omega) (Nat.le_refl _)]
theorem chain_none {j : Nat} (e : ∀ d, os[j]? ≠ some (some d)) : chain os j = [j] := by
  unfold chain
  cases j with
  | zero => rfl
  | succ j =>
    unfold chainN
    split
    · rename_i d z
      exact absurd z (e d)
    · rfl
theorem chain_cases (h : Down os) (j : Nat) : (∃ d, os[j]? = some (some d) ∧ d < j ∧ chain os j = j :: chain os d) ∨ ((∀ d, os[j]? ≠ some (some d)) ∧ chain os j = [j]) := by
  by_cases e : ∃ d, os[j]? = some (some d)
  · obtain ⟨d, e⟩ := e
    exact .inl ⟨d, e, h j d e, chain_some h e⟩
  · exact .inr ⟨fun d z => e ⟨d, z⟩, chain_none fun d z => e ⟨d, z⟩⟩
theorem chain_le (h : Down os) : ∀ (n j : Nat), j ≤ n → ∀ m ∈ chain os j, m ≤ j := by
  intro n
  induction n with
  | zero =>
    intro j hj m hm
    have : j = 0 := by omega
    subst this
    rw [show chain os 0 = [0] from rfl] at hm
    rw [List.mem_singleton.mp hm]
    exact Nat.le_refl _
  | succ n ih =>
    intro j hj m hm
    rcases chain_cases h j with ⟨d, e, hd, ec⟩ | ⟨_, ec⟩
    · rw [ec] at hm
      rcases List.mem_cons.mp hm with z | z
      · omega
      · have := ih d (by omega) m z
        omega
    · rw [ec] at hm
      rw [List.mem_singleton.mp hm]
      exact Nat.le_refl _
theorem chain_self (j : Nat) : j ∈ chain os j := by
  unfold chain
  cases j with
  | zero => exact List.mem_singleton.mpr rfl
  | succ j => unfold chainN; exact List.mem_cons_self
theorem chain_suffix (h : Down os) : ∀ (n j m : Nat), j ≤ n → m ∈ chain os j → ∃ pre, chain os j = pre ++ chain os m := by
  intro n
  induction n with
  | zero =>
    intro j m hj hm
    have : j = 0 := by omega
    subst this
    rw [show chain os 0 = [0] from rfl] at hm
    rw [List.mem_singleton.mp hm]
    exact ⟨[], rfl⟩
  | succ n ih =>
    intro j m hj hm
    rcases chain_cases h j with ⟨d, e, hd, ec⟩ | ⟨_, ec⟩
    · rw [ec] at hm
      rcases List.mem_cons.mp hm with z | z
      · rw [z]
        exact ⟨[], rfl⟩
      · obtain ⟨pre, ep⟩ := ih d m (by omega) z
        exact ⟨j :: pre, by rw [ec, ep]; rfl⟩
    · rw [ec] at hm
      rw [List.mem_singleton.mp hm]
      exact ⟨[], rfl⟩
theorem chain_desc (h : Down os) : ∀ (n j : Nat), j ≤ n → (chain os j).Pairwise (· > ·) := by
  intro n
  induction n with
  | zero =>
    intro j hj
    have : j = 0 := by omega
    subst this
    exact List.pairwise_singleton _ _
  | succ n ih =>
    intro j hj
    rcases chain_cases h j with ⟨d, e, hd, ec⟩ | ⟨_, ec⟩
    · rw [ec]
      refine List.Pairwise.cons (fun m hm => ?_) (ih d (by omega))
      have := chain_le h d d (Nat.le_refl _) m hm
      show m < j
      omega
    · rw [ec]
      exact List.pairwise_singleton _ _
theorem chain_both (h : Down os) {j m m' : Nat} (hm : m ∈ chain os j) (hm' : m' ∈ chain os j) (hle : m ≤ m') : m ∈ chain os m' := by
  obtain ⟨pre, ep⟩ := chain_suffix h j j m' (Nat.le_refl _) hm'
  have hd := chain_desc h j j (Nat.le_refl _)
  rw [ep] at hm hd
  rcases List.mem_append.mp hm with z | z
  · have := (List.pairwise_append.mp hd).2.2 m z m' (chain_self m')
    omega
  · exact z
theorem chain_trans (h : Down os) {j m k : Nat} (hm : m ∈ chain os j) (hk : k ∈ chain os m) : k ∈ chain os j := by
  obtain ⟨pre, ep⟩ := chain_suffix h j j m (Nat.le_refl _) hm
  rw [ep]
  exact List.mem_append_right _ hk
/-- in the chains of all numbers from the last lit day on -/
def SharedM (os : List (Option Nat)) (n m : Nat) : Prop := ∃ l, os[n]? = some (some l) ∧ ∀ k, l ≤ k → k < n → m ∈ chain os k
structure IsMany (os : List (Option Nat)) (n m : Nat) : Prop where
  most : ∀ m', SharedM os n m' → m' ≤ m
  at_ : m = 0 ∨ SharedM os n m
theorem IsMany.uniq {n m m' : Nat} (h : IsMany os n m) (h' : IsMany os n m') : m = m' := by
  rcases h.at_ with e | e <;> rcases h'.at_ with e' | e'
  · omega
  · have := h.most m' e'
    omega
  · have := h'.most m e
    omega
  · have := h.most m' e'
    have := h'.most m e
    omega
theorem isMany_none {n : Nat} (e : os[n]? = some none) : IsMany os n 0 := ⟨fun m' ⟨l, z, _⟩ => absurd (e.symm.trans z) (by simp), .inl rfl⟩
def litOf (os : List (Option Nat)) (m : Nat) : List Nat := (chain os m).tail.reverse
theorem chain_head (j : Nat) : chain os j = j :: (chain os j).tail := by
  unfold chain
  cases j with
  | zero => rfl
  | succ j => unfold chainN; rfl
theorem litOf_rise (h : Down os) (m : Nat) : (litOf os m).Pairwise (· < ·) := by
  unfold litOf
  rw [List.pairwise_reverse]
  have := chain_desc h m m (Nat.le_refl _)
  rw [chain_head] at this
  exact (List.pairwise_cons.mp this).2
/-- what the first numbers' chains are -/
theorem chain_take (h : Down os) {n : Nat} : ∀ (f j : Nat), j ≤ n → chainN (os.take (n + 1)) f j = chainN os f j
  | 0, _, _ => rfl
  | f + 1, j, hj => by
    unfold chainN
    rw [List.getElem?_take_of_lt (by omega)]
    split
    · rename_i d e
      have := h j d e
      rw [chain_take h f d (by omega)]
    · rfl
theorem shared_take (h : Down os) {n m : Nat} : SharedM (os.take (n + 1)) n m ↔ SharedM os n m := by
  unfold SharedM
  rw [List.getElem?_take_of_lt (by omega)]
  have e : ∀ k, k < n → chain (os.take (n + 1)) k = chain os k := fun k hk => chain_take h k k (by omega)
  constructor
  · rintro ⟨l, h1, h2⟩
    exact ⟨l, h1, fun k a b => by rw [← e k b]; exact h2 k a b⟩
  · rintro ⟨l, h1, h2⟩
    exact ⟨l, h1, fun k a b => by rw [e k b]; exact h2 k a b⟩
theorem isMany_take (h : Down os) {n m : Nat} : IsMany (os.take (n + 1)) n m ↔ IsMany os n m :=
  ⟨fun z => ⟨fun m' s => z.most m' ((shared_take h).mpr s), z.at_.imp_right fun s => (shared_take h).mp s⟩, fun z => ⟨fun m' s => z.most m' ((shared_take h).mp s), z.at_.imp_right fun s => (shared_take h).mpr s⟩⟩
theorem down_take (h : Down os) (n : Nat) : Down (os.take n) := fun j d e => by
  by_cases hj : j < n
  · rw [List.getElem?_take_of_lt hj] at e
    exact h j d e
  · rw [List.getElem?_eq_none (by rw [List.length_take]; omega)] at e
    cases e
/-- a day more: what is settled stays settled -/
theorem shared_more (h : Down os) {n m l l' : Nat} (e : os[n]? = some (some l)) (e' : os[n + 1]? = some (some l')) (hl : l ≤ l') (hs : SharedM os n m) : SharedM os (n + 1) m := by
  obtain ⟨l2, e2, hk⟩ := hs
  rw [e] at e2
  cases e2
  refine ⟨l', e', fun k h1 h2 => ?_⟩
  by_cases hkn : k = n
  · subst hkn
    rw [chain_some h e]
    exact List.mem_cons_of_mem _ (hk l (Nat.le_refl _) (h k l e))
  · exact hk k (by omega) (by omega)
theorem lit_prefix (h : Down os) {m m' : Nat} (hm : m ∈ chain os m') : ∃ r, litOf os m' = litOf os m ++ r := by
  obtain ⟨pre, ep⟩ := chain_suffix h m' m' m (Nat.le_refl _) hm
  unfold litOf
  rw [ep]
  cases pre with
  | nil => exact ⟨[], by rw [List.nil_append, List.append_nil]⟩
  | cons x r =>
    rw [List.cons_append, List.tail_cons, List.reverse_append]
    rw [chain_head m, List.reverse_cons, List.tail_cons, List.append_assoc]
    exact ⟨_, rfl⟩
theorem many_more (h : Down os) {n m m' l l' : Nat} (e : os[n]? = some (some l)) (e' : os[n + 1]? = some (some l')) (hl : l ≤ l') (h1 : IsMany os n m) (h2 : IsMany os (n + 1) m') : m ≤ m' ∧ ∃ r, litOf os m' = litOf os m ++ r := by
  rcases h1.at_ with z | hs
  · subst z
    exact ⟨Nat.zero_le _, _, rfl⟩
  · have hs' := shared_more h e e' hl hs
    have hle := h2.most m hs'
    refine ⟨hle, ?_⟩
    rcases h2.at_ with z | hs2
    · have : m = m' := by omega
      subst this
      exact ⟨[], by rw [List.append_nil]⟩
    · obtain ⟨l3, e3, k3⟩ := hs'
      obtain ⟨l4, e4, k4⟩ := hs2
      rw [e'] at e3 e4
      cases e3
      cases e4
      exact lit_prefix h (chain_both h (k3 l' (Nat.le_refl _) (h _ _ e')) (k4 l' (Nat.le_refl _) (h _ _ e')) hle)
theorem chain_len (h : Down os) : ∀ j, (chain os j).length ≤ j + 1 := by
  suffices ∀ n j, j ≤ n → (chain os j).length ≤ j + 1 from fun j => this j j (Nat.le_refl _)
  intro n
  induction n with
  | zero =>
    intro j hj
    have : j = 0 := by omega
    subst this
    exact Nat.le_refl _
  | succ n ih =>
    intro j hj
    rcases chain_cases h j with ⟨d, e, hd, ec⟩ | ⟨_, ec⟩
    · rw [ec, List.length_cons]
      have := ih d (by omega)
      omega
    · rw [ec]
      show 1 ≤ j + 1
      omega
theorem chain_lt (h : Down os) {j m : Nat} (hj : j < os.length) (hm : m ∈ chain os j) : m < os.length := by
  have := chain_le h j j (Nat.le_refl _) m hm
  omega
end
theorem Lasts.down {g : Good} {ls : List Int} {os : List (Option Nat)} (h : Lasts g ls os) : Down os := fun j d e => by
  obtain ⟨row, h1, h2⟩ := h.row
  exact (h2 j _ e).1.1
def natI (n : Nat) : V := .int (n : Int)
theorem natI_map (l : List Nat) : l.map natI = (l.map fun (n : Nat) => (n : Int)).map V.int := by rw [List.map_map]; rfl
end Bk

namespace Bk
open PySem PySem.Spec PyProof.Rows L2
/-! ### dict(pairs), walks over a dict that is locked -/
def rDictP (K : PySem.W.Frag) : List V → Hp → VK → Prop := fun xs H Q => ∃ (a : Addr) (ps : List Addr) (kvs : List (Key × V)), xs = [.ref a] ∧ SqL K H a (ps.map V.ref) ∧ Paired (fun p kv => SqT K H p [kV kv.1, kv.2]) ps kvs ∧ ∀ p, H p = none → Q (.ref p) (upd H p (.dK (mergeK [] kvs)))
theorem call_dictPn {X : Cx} (hc : X.calm = true) : CallR X (.type "dict") (rDictP X.K) := call_dictP hc
theorem rDictP_r {K : PySem.W.Frag} {a : Addr} {H : Hp} {Q : VK} : rDictP K [.ref a] H Q = ∃ (ps : List Addr) (kvs : List (Key × V)), SqL K H a (ps.map V.ref) ∧ Paired (fun p kv => SqT K H p [kV kv.1, kv.2]) ps kvs ∧ ∀ p, H p = none → Q (.ref p) (upd H p (.dK (mergeK [] kvs))) :=
  propext ⟨fun ⟨_, ps, kvs, e, h⟩ => by cases e; exact ⟨ps, kvs, h⟩, fun ⟨ps, kvs, h⟩ => ⟨a, ps, kvs, rfl, h⟩⟩
theorem lock_same {H H' : Hp} {d : Addr} {u : HO} {od : Obj} (hd : H d = some u) (s : Same (upd H d (.frz od u)) H') : Same H (upd H' d u) := fun b o e => by
  by_cases z : b = d
  · subst z
    rw [upd_same, ← e, hd]
  · rw [upd_ne z]
    refine s b o ?_
    rw [upd_ne z]
    exact e
/-- a dict whose keys are just these days -/
structure DictN (H : Hp) (p : Addr) (ns : List Nat) : Prop where
  ex : ∃ kvs : List (Key × V), H p = some (.dK kvs) ∧ kvs.map (·.1) = keyN ns
theorem DictN.same {H H' : Hp} {p : Addr} {ns : List Nat} (h : DictN H p ns) (s : Same H H') : DictN H' p ns := by
  obtain ⟨kvs, e, k⟩ := h.ex
  exact ⟨kvs, s _ _ e, k⟩
theorem addN_le (ns : List Nat) (n : Nat) : (addN ns n).length ≤ ns.length + 1 := by
  unfold addN
  split
  · omega
  · rw [List.length_append, List.length_singleton]
    omega
theorem mergeK_keys : ∀ (more : List (Key × V)) (kvs : List (Key × V)) (ns ms : List Nat), kvs.map (·.1) = keyN ns → more.map (·.1) = keyN ms → ∃ rs, (mergeK kvs more).map (·.1) = keyN rs ∧ rs.length ≤ ns.length + ms.length ∧ ∀ m, m ∈ rs ↔ m ∈ ns ∨ m ∈ ms
  | [], kvs, ns, ms, h1, h2 => by
    cases ms with
    | nil => exact ⟨ns, h1, Nat.le_refl _, fun m => ⟨.inl, fun z => z.elim id fun y => (by cases y)⟩⟩
    | cons x r => cases h2
  | kv :: more, kvs, ns, ms, h1, h2 => by
    cases ms with
    | nil => cases h2
    | cons x r =>
      have e1 : kv.1 = Sum.inl ((x : Nat) : Int) := (List.cons.inj h2).1
      have e2 : more.map (·.1) = keyN r := (List.cons.inj h2).2
      obtain ⟨rs, h3, h5, h4⟩ := mergeK_keys more (putK kvs kv.1 kv.2) (addN ns x) r (by rw [e1]; exact keyN_put h1) e2
      have h6 := addN_le ns x
      refine ⟨rs, h3, by rw [List.length_cons]; omega, fun m => ?_⟩
      rw [h4, addN_mem, List.mem_cons, or_assoc]
theorem valV_some {kvs : List (Key × V)} {ns : List Nat} {n : Nat} (h : kvs.map (·.1) = keyN ns) : (valV kvs (Sum.inl (n : Int))).isSome = decide (n ∈ ns) := by
  apply Bool.eq_iff_iff.mpr
  rw [decide_eq_true_iff, ← keyN_mem, ← h]
  unfold valV
  rw [Option.isSome_map, List.find?_isSome, List.mem_map]
  constructor
  · rintro ⟨kv, h1, h2⟩
    exact ⟨kv, h1, of_decide_eq_true h2⟩
  · rintro ⟨kv, h1, h2⟩
    exact ⟨kv, h1, decide_eq_true h2⟩
theorem keyN_at {kvs : List (Key × V)} {ns : List Nat} {i : Nat} {k : Key} {v : V} (h : kvs.map (·.1) = keyN ns) (e : kvs[i]? = some (k, v)) : ∃ n, ns[i]? = some n ∧ k = Sum.inl (n : Int) := by
  have h1 : (kvs.map (·.1))[i]? = some k := by rw [List.getElem?_map, e]; rfl
  rw [h] at h1
  unfold keyN at h1
  rw [List.getElem?_map] at h1
  cases hn : ns[i]? with
  | none => rw [hn] at h1; cases h1
  | some n =>
    rw [hn] at h1
    exact ⟨n, rfl, (Option.some.inj h1).symm⟩
theorem keyN_len {kvs : List (Key × V)} {ns : List Nat} (h : kvs.map (·.1) = keyN ns) : kvs.length = ns.length := by
  have := congrArg List.length h
  unfold keyN at this
  rw [List.length_map, List.length_map] at this
  exact this
end Bk

namespace Bk
open PySem PySem.Spec PyProof.Rows L2
/-! ### set(xs) of a list of ints -/
abbrev emp0 (w : World) : Obj := { cls := .type "set", dict := none, data := .set #[] 0 (.fresh 0 0 (!w.params.followText "set-order")) }
section
variable {P : Program} {w : World} {A : Around} {E : Value → Shared → Prop} {s : Shared}
set_option maxHeartbeats 3200000 in
theorem set_ofList {l : Addr} {its : Array Value} (zs : List Int) {Q : Value → Shared → Prop} (ah : A.handled = none) (il : s.heap.IsList l its) (ia : IntsAre its.toList zs) (few : zs.length + 1 < scanBound)
    (go : ∀ (h' : Heap) (tk c : Nat), SetR w h' s.heap.objs.size (fun j => decide (j ∈ zs)) c → c ≤ zs.length → (∀ b o, s.heap.get? b = some o → h'.get? b = some o) → Q (.ref s.heap.objs.size) { s with heap := h', toks := tk }) : wpAny (model P w) A (call (.type "set") [.ref l]) Q E s := by
  have isz : its.size = zs.length := by have z := IntsAre.length ia; rw [Array.length_toList] at z; exact z
  obtain ⟨c, tl, m1⟩ := F.called_set.mro
  have m2 := F.called_set.made
  have m3 := F.called_set.sub
  refine wpAny_call (codeAny_of_tree ?_); show wpAny _ _ (callAny (.type "set") _) _ _ _
  refine wpAny_pure ⟨Code.quiet_builtin _ (by decide +kernel), codeAny_builtin F.entry_type_call ?_⟩; rw [Around.under_plain (weight_type_call_type "set" [.ref l] []) rfl]
  have m4 := F.called_set.notType
  have m5 := F.called_set.canCreate
  have m6 := F.typeCall_set_1 (.ref l)
  repeat (any_goals (first | assumption | wp_step))
  refine codeAny_mono (code_set_led1 (.ref l) (E := E) (Q₁ := fun u t => u = .ref s.heap.objs.size ∧ t = { s with heap := s.heap.push (emp0 w) }) ⟨rfl, rfl⟩) fun r t hr => ?_
  cases r with
  | error e => exact hr
  | ok fl =>
    cases fl with
    | ret u =>
      obtain ⟨rfl, rfl⟩ := hr
      have eS : (s.heap.push (emp0 w)).get? s.heap.objs.size = some (emp0 w) := Heap.get?_push_size _ rfl
      have eT : Shared.TypeIs { s with heap := s.heap.push (emp0 w) } (.ref s.heap.objs.size) "set" := ⟨_, eS, rfl⟩
      have m7 := F.called_set.init.lookup
      have m8 := F.called_set.init.bind (.ref s.heap.objs.size)
      repeat (any_goals (first | assumption | wp_step))
      refine codeAny_mono (codeAny_call_builtin (R := wants (fun r t2 => r = .none ∧ ∃ h' tk c, t2 = { s with heap := h', toks := tk } ∧ SetR w h' s.heap.objs.size (fun j => decide (j ∈ zs)) c ∧ c ≤ zs.length ∧ (∀ b o, s.heap.get? b = some o → h'.get? b = some o)) E) F.called_set.init.plain F.entry_set_init (check_set_init_1 eT ?_)) fun r2 t2 hr2 => ?_
      · obtain ⟨ob, eb, ec, nl, ed⟩ := il
        obtain ⟨b1, b2, b3, b4⟩ := ob
        simp only at ec ed
        subst ec
        subst ed
        have eb' : (s.heap.push (emp0 w)).get? l = some { cls := .type "list", dict := b2, data := .seq its nl, slots := b4 } := Heap.get?_push_of_some _ eb
        have m9 := F.sub_list_set
        have ma := F.sub_list_frozenset
        have mb : (Value.type "list" == Value.type "dict") = false := by decide
        have il1 : (s.heap.push (emp0 w)).IsList l its := ⟨_, eb', rfl, nl, rfl⟩
        unfold Builtin.«set.__init__» noKeywords Builtin.Frozenset.updateFrom
        generalize hI : pyIter = PI
        wp_walk
        subst hI
        refine wpAny_pyIter_list il1 ?_
        refine wpAny_bind (wpAny_runValue ?_)
        have ll : l < s.heap.objs.size := Heap.lt_size eb
        have ah3 : A.in1.in1.in1.handled = none := by simp [ah]
        have nI : l ≠ (s.heap.push (emp0 w)).objs.size := by rw [Heap.size_push]; exact Nat.ne_of_lt (Nat.lt_succ_of_lt ll)
        have nS : s.heap.objs.size ∉ [(s.heap.push (emp0 w)).objs.size, l] := by
          rw [Heap.size_push]; simp only [List.mem_cons, List.mem_singleton, List.not_mem_nil, or_false, not_or]; exact ⟨Nat.ne_of_lt (Nat.lt_succ_self _), Nat.ne_of_gt ll⟩
        have at_ : ∀ (i : Nat) (v : Value), its[i]? = some v → ∃ k t, zs[i]? = some k ∧ v = .int k t := fun i v hv => by
          have hi : i < zs.length := by rw [← isz]; exact (Array.getElem?_eq_some_iff.mp hv).1
          obtain ⟨t, e⟩ := PyProof.Rows.IntsAre.int_at ia i v (by rw [Array.getElem?_toList]; exact hv)
          refine ⟨zs[i], t, List.getElem?_eq_getElem hi, ?_⟩; rw [e, List.getD_eq_getElem?_getD, List.getElem?_eq_getElem hi] <;> rfl
        refine set_update_ints ((Walks.list ah3 _ l nI its).toS) s.heap.objs.size nS zs isz few at_ (its.size - 0) 0 _ (by omega) (Nat.zero_le _) ⟨⟨_, Heap.get?_push_size _ rfl, rfl, rfl⟩, (il1.push _)⟩ ?z0 ?z1
        case z0 => exact ⟨0, Nat.le_refl 0, setR_new_at (Heap.get?_push_of_some _ eS)⟩
        case z1 =>
          intro t3 c3 mv lc hS'
          obtain ⟨h', g2, d', tk', os'⟩ := t3
          have z1 : g2 = s.gens := mv.gens
          have z2 : d' = s.drawn := mv.drawn
          have z3 : os' = s.os := mv.os
          subst z1
          subst z2
          subst z3
          show wpAny _ _ _ _ _ _; refine wpAny_pure ?_
          show wpAny _ _ (ret Value.none) _ _ _; rw [isz] at lc
          refine wpAny_pure ⟨rfl, h', tk', c3, rfl, hS', lc, fun b o e => ?_⟩
          have y0 : b < s.heap.objs.size := Heap.lt_size e
          have y2 : b ≠ (s.heap.push (emp0 w)).objs.size := by rw [Heap.size_push]; exact Nat.ne_of_lt (Nat.lt_succ_of_lt y0)
          exact mv.heap b o (by simp only [List.mem_cons, List.mem_singleton, List.not_mem_nil, or_false, not_or]; exact ⟨Nat.ne_of_lt y0, y2⟩) (Heap.get?_push_of_some _ (Heap.get?_push_of_some _ e))
      · cases r2 with
        | error e => exact hr2
        | ok fl2 =>
          cases fl2 with
          | ret r =>
            obtain ⟨rfl, h', tk, c', rfl, hS', lc, hk'⟩ := hr2
            repeat (any_goals (first | assumption | wp_step))
            exact go _ _ _ hS' lc hk'
          | _ => exact hr2.elim
    | _ => exact hr.elim
end
def rSetOf (K : PySem.W.Frag) (w : World) : List V → Hp → VK → Prop := fun xs H Q => ∃ (l : Addr) (ns : List Int), xs = [.ref l] ∧ SqL K H l (ns.map V.int) ∧ ns.length < 60 ∧ ∀ p c, H p = none → c ≤ ns.length → Q (.ref p) (upd H p (SetO w p (fun j => decide (j ∈ ns)) c))
theorem cr_setOf {X : Cx} (hc : X.calm = true) : CallR X (.type "set") (rSetOf X.K X.w) := by
  intro pins s σ H xs us Q I r h
  obtain ⟨l, ns, rfl, hl, hn, q⟩ := h
  obtain rfl := Vals.ref1 r
  obtain ⟨its, rv, il, _⟩ := I.list hl
  refine set_ofList ns (I.ok.hd hc) il.isList (by simpa using rv.ints) (Nat.lt_of_lt_of_le (show ns.length + 1 < 61 by omega) (by decide)) fun h' tk c hS lc hk => ?_
  exact ⟨.ref _, upd H s.heap.objs.size (SetO X.w s.heap.objs.size (fun j => decide (j ∈ ns)) c), I.laid (t' := tk) (fun b u e => hk b u e) (Nat.le_refl _) (setO_new hS), rfl, q _ _ (I.hok.fresh (Nat.le_refl _)) lc⟩
theorem rSetOf_r {K : PySem.W.Frag} {w : World} {l : Addr} {H : Hp} {Q : VK} : rSetOf K w [.ref l] H Q = ∃ ns : List Int, SqL K H l (ns.map V.int) ∧ ns.length < 60 ∧ ∀ p c, H p = none → c ≤ ns.length → Q (.ref p) (upd H p (SetO w p (fun j => decide (j ∈ ns)) c)) := propext ⟨fun ⟨_, ns, e, h⟩ => by cases e; exact ⟨ns, h⟩, fun ⟨ns, h⟩ => ⟨l, ns, rfl, h⟩⟩
theorem rSortedSet_r {w : World} {a : Addr} {H : Hp} {Q : VK} : rSortedSet w [.ref a] H Q = ∃ (S : Int → Bool) (n : Nat), H a = some (SetO w a S n) ∧ n < 64 ∧ ∀ (ns : List Int) (p : Addr), ns.Pairwise (· < ·) → (∀ k : Int, k ∈ ns ↔ S k = true) → ns.length = n → H p = none → Q (.ref p) (upd H p (.lst (ns.map V.int))) := propext ⟨fun ⟨_, S, n, e, h⟩ => by cases e; exact ⟨S, n, h⟩, fun ⟨S, n, h⟩ => ⟨a, S, n, rfl, h⟩⟩
end Bk

namespace Bk
open PySem PySem.Spec PyProof.Rows L2
/-! ### where a last stretch begins -/
def fbo (row : Nat → Int) (w : Nat → Option Int) (T : Int) : Nat → Int → Option Nat
  | 0, _ => none
  | m + 1, cost => match w m with
    | none => none
    | some p => if row m + (cost + p) = T then some m else fbo row w T m (cost + p)
theorem segP_one {w : Nat → Option Int} {m : Nat} {p : Int} (h : w m = some p) : segP w m 1 = some p := by
  unfold segP
  simp only [List.range_one, List.map_cons, List.map_nil, Nat.add_zero, h, sumO, Option.map_some]
  rw [Int.add_zero]
theorem fbo_some {row : Nat → Int} {w : Nat → Option Int} {T : Int} : ∀ {m : Nat} {c : Int} {f : Nat}, fbo row w T m c = some f → f < m ∧ ∃ s, segP w f (m - f) = some s ∧ row f + c + s = T
  | 0, c, f, h => by cases h
  | m + 1, c, f, h => by
    unfold fbo at h
    cases hw : w m with
    | none => rw [hw] at h; cases h
    | some p =>
      rw [hw] at h
      simp only at h
      by_cases e : row m + (c + p) = T
      · rw [if_pos e] at h
        cases h
        exact ⟨by omega, p, by rw [show m + 1 - m = 1 by omega]; exact segP_one hw, by omega⟩
      · rw [if_neg e] at h
        obtain ⟨h1, s, h2, h3⟩ := fbo_some h
        refine ⟨by omega, s + p, ?_, by omega⟩
        rw [show m + 1 - f = m - f + 1 by omega]
        exact segP_join 1 (m - f) h2 (by rw [show f + (m - f) = m by omega]; exact segP_one hw)
theorem fbo_ex {row : Nat → Int} {w : Nat → Option Int} {T : Int} : ∀ {m : Nat} {c : Int} {f : Nat} {s : Int}, f < m → segP w f (m - f) = some s → row f + c + s = T → ∃ f', fbo row w T m c = some f'
  | 0, c, f, s, h, _, _ => by omega
  | m + 1, c, f, s, h, h1, h2 => by
    rw [show m + 1 - f = m - f + 1 by omega] at h1
    obtain ⟨x, y, e1, e2, e3⟩ := segP_succ h1
    rw [show f + (m - f) = m by omega] at e2
    unfold fbo
    rw [e2]
    simp only
    by_cases e : row m + (c + y) = T
    · rw [if_pos e]
      exact ⟨_, rfl⟩
    · rw [if_neg e]
      by_cases hf : f = m
      · subst hf
        rw [Nat.sub_self] at e1
        have : x = 0 := (Option.some.inj e1).symm
        exact absurd (by omega) e
      · exact fbo_ex (by omega) e1 (by omega)
/-- rows of a plan: day of baking, day given -/
structure PlanOk (g : Good) (lights : Nat → Int) (n m : Nat) (es : List (Nat × Nat)) : Prop where
  days : (es.map Prod.snd).Perm ((List.range n).filter fun k => decide (m ≤ k ∧ wantN g k ≠ 0))
  price : ∀ e ∈ es, e.1 < n ∧ ∃ p, loafP g e.1 e.2 = some p
/-- what the loaves of a plan cost -/
def loavesE (g : Good) (es : List (Nat × Nat)) : Int := (es.map fun e => wantN g e.2 * (loafP g e.1 e.2).getD 0).sum
structure CheapI (g : Good) (lights row : Nat → Int) (n m : Nat) (es : List (Nat × Nat)) : Prop extends PlanOk g lights n m es where
  cost : litSum lights (fun d => ∃ e ∈ es, e.1 = d) n + loavesE g es + row m ≤ row n
theorem litSum_mono {lights : Nat → Int} (hl : ∀ b, 0 ≤ lights b) {S S' : Nat → Prop} {n : Nat} (h : ∀ d, S d → S' d) : litSum lights S n ≤ litSum lights S' n := by
  unfold litSum
  refine sumN_le n fun k _ => ?_
  by_cases a : S k
  · rw [if_pos a, if_pos (h k a)]
    exact Int.le_refl _
  · rw [if_neg a]
    split
    · exact hl k
    · exact Int.le_refl _
/-- the rows of a stretch -/
def strE (g : Good) (b f m : Nat) : List (Nat × Nat) := (((List.range (m - f)).map fun i => f + i).filter fun k => decide (wantN g k ≠ 0)).map fun k => (b, k)
theorem loavesE_app (g : Good) (es fs : List (Nat × Nat)) : loavesE g (es ++ fs) = loavesE g es + loavesE g fs := by
  unfold loavesE
  rw [List.map_append, List.sum_append]
theorem wantP_loaf {g : Good} {b k : Nat} {z : Int} (h : wantP g b k = some z) : z = wantN g k * (loafP g b k).getD 0 ∧ (wantN g k ≠ 0 → ∃ p, loafP g b k = some p) := by
  unfold wantP at h
  unfold wantN
  cases hd : g.days[k]? with
  | none => rw [hd] at h; cases h
  | some d =>
    rw [hd] at h
    simp only at h ⊢
    by_cases e : d.want = 0
    · rw [if_pos e] at h
      cases h
      rw [e]
      exact ⟨by omega, fun z => absurd rfl z⟩
    · rw [if_neg e] at h
      cases hp : loafP g b k with
      | none => rw [hp] at h; cases h
      | some p =>
        rw [hp] at h
        cases h
        exact ⟨rfl, fun _ => ⟨p, rfl⟩⟩
theorem strE_seg {g : Good} {b f : Nat} : ∀ (n : Nat) {s : Int}, segP (wantP g b) f n = some s → loavesE g (strE g b f (f + n)) = s ∧ ∀ e ∈ strE g b f (f + n), ∃ p, loafP g e.1 e.2 = some p
  | 0, s, h => by
    cases h
    unfold strE loavesE
    rw [Nat.add_zero, Nat.sub_self]
    exact ⟨rfl, fun e he => by cases he⟩
  | n + 1, s, h => by
    obtain ⟨x, y, h1, h2, rfl⟩ := segP_succ h
    obtain ⟨i1, i2⟩ := strE_seg n h1
    have hs : strE g b f (f + (n + 1)) = strE g b f (f + n) ++ (if wantN g (f + n) ≠ 0 then [(b, f + n)] else []) := by
      unfold strE
      rw [show f + (n + 1) - f = n + 1 by omega, show f + n - f = n by omega, List.range_succ, List.map_append, List.filter_append, List.map_append]
      congr 1
      by_cases e : wantN g (f + n) ≠ 0
      · rw [if_pos e]
        simp [e]
      · rw [if_neg e]
        simp only [List.map_cons, List.map_nil]
        rw [List.filter_cons_of_neg (by simpa using e)]
        rfl
    obtain ⟨w1, w2⟩ := wantP_loaf h2
    rw [hs]
    by_cases e : wantN g (f + n) ≠ 0
    · rw [if_pos e, loavesE_app, i1]
      refine ⟨?_, fun z hz => ?_⟩
      · show x + ([wantN g (f + n) * (loafP g b (f + n)).getD 0]).sum = x + y
        rw [List.sum_singleton, ← w1]
      · rcases List.mem_append.mp hz with z1 | z1
        · exact i2 z z1
        · rw [List.mem_singleton.mp z1]
          exact w2 e
    · rw [if_neg e, List.append_nil]
      have e' : wantN g (f + n) = 0 := Classical.not_not.mp e
      rw [e', Int.zero_mul] at w1
      exact ⟨by rw [i1, w1]; omega, i2⟩
theorem perm_range_split {g : Good} {n f m : Nat} (hf : f ≤ m) (hm : m ≤ n) : (((List.range n).filter fun k => decide (m ≤ k ∧ wantN g k ≠ 0)) ++ (((List.range (m - f)).map fun i => f + i).filter fun k => decide (wantN g k ≠ 0))).Perm ((List.range n).filter fun k => decide (f ≤ k ∧ wantN g k ≠ 0)) := by
  have e1 : List.range n = List.range f ++ ((List.range (m - f)).map fun i => f + i) ++ ((List.range (n - m)).map fun i => m + i) := by
    apply List.ext_getElem
    · simp only [List.length_append, List.length_map, List.length_range]
      omega
    · intro i h1 h2
      rw [List.length_range] at h1
      rw [List.getElem_range]
      by_cases a : i < f
      · rw [List.getElem_append_left (by simp only [List.length_append, List.length_range, List.length_map]; omega), List.getElem_append_left (by rw [List.length_range]; exact a), List.getElem_range]
      · by_cases b : i < m
        · rw [List.getElem_append_left (by simp only [List.length_append, List.length_range, List.length_map]; omega), List.getElem_append_right (by rw [List.length_range]; omega), List.getElem_map, List.getElem_range, List.length_range]
          omega
        · rw [List.getElem_append_right (by simp only [List.length_append, List.length_range, List.length_map]; omega), List.getElem_map, List.getElem_range]
          simp only [List.length_append, List.length_range, List.length_map]
          omega
  have fA : ∀ (q : Nat), q ≤ n → ((List.range f).filter fun k => decide (f ≤ k ∧ wantN g k ≠ 0)) = [] := fun _ _ => by
    rw [List.filter_eq_nil_iff]
    intro k hk
    have := List.mem_range.mp hk
    simp only [decide_eq_true_eq]
    omega
  have fA2 : ((List.range f).filter fun k => decide (m ≤ k ∧ wantN g k ≠ 0)) = [] := by
    rw [List.filter_eq_nil_iff]
    intro k hk
    have := List.mem_range.mp hk
    simp only [decide_eq_true_eq]
    omega
  have fB : (((List.range (m - f)).map fun i => f + i).filter fun k => decide (m ≤ k ∧ wantN g k ≠ 0)) = [] := by
    rw [List.filter_eq_nil_iff]
    intro k hk
    obtain ⟨i, hi, rfl⟩ := List.mem_map.mp hk
    have := List.mem_range.mp hi
    simp only [decide_eq_true_eq]
    omega
  have fB2 : (((List.range (m - f)).map fun i => f + i).filter fun k => decide (f ≤ k ∧ wantN g k ≠ 0)) = (((List.range (m - f)).map fun i => f + i).filter fun k => decide (wantN g k ≠ 0)) := by
    apply List.filter_congr
    intro k hk
    obtain ⟨i, hi, rfl⟩ := List.mem_map.mp hk
    apply decide_eq_decide.mpr
    exact ⟨fun z => z.2, fun z => ⟨by omega, z⟩⟩
  have fC : (((List.range (n - m)).map fun i => m + i).filter fun k => decide (m ≤ k ∧ wantN g k ≠ 0)) = (((List.range (n - m)).map fun i => m + i).filter fun k => decide (f ≤ k ∧ wantN g k ≠ 0)) := by
    apply List.filter_congr
    intro k hk
    obtain ⟨i, hi, rfl⟩ := List.mem_map.mp hk
    apply decide_eq_decide.mpr
    exact ⟨fun z => ⟨by omega, z.2⟩, fun z => ⟨by omega, z.2⟩⟩
  rw [e1, List.filter_append, List.filter_append, List.filter_append, List.filter_append, fA n (Nat.le_refl _), fA2, fB, fB2, fC]
  simp only [List.nil_append]
  exact List.perm_append_comm
theorem cheap_step {g : Good} {lights row : Nat → Int} (hl : ∀ b, 0 ≤ lights b) {n m f b : Nat} {s : Int} {es : List (Nat × Nat)} (h : CheapI g lights row n m es) (hb : b < n) (hf : f < m) (hm : m ≤ n) (hs : segP (wantP g b) f (m - f) = some s) (he : row f + lights b + s = row m) : CheapI g lights row n f (es ++ strE g b f m) := by
  have hse := strE_seg (m - f) hs
  rw [show f + (m - f) = m by omega] at hse
  refine ⟨⟨?_, fun e hem => ?_⟩, ?_⟩
  · rw [List.map_append]
    refine (List.Perm.append h.days ?_).trans (perm_range_split (Nat.le_of_lt hf) hm)
    unfold strE
    rw [List.map_map]
    have : (Prod.snd ∘ fun k : Nat => (b, k)) = id := rfl
    rw [this, List.map_id]
  · rcases List.mem_append.mp hem with z | z
    · exact h.price e z
    · refine ⟨?_, hse.2 e z⟩
      unfold strE at z
      obtain ⟨k, _, rfl⟩ := List.mem_map.mp z
      exact hb
  · rw [loavesE_app, hse.1]
    have h1 : litSum lights (fun d => ∃ e ∈ es ++ strE g b f m, e.1 = d) n ≤ litSum lights (fun d => (∃ e ∈ es, e.1 = d) ∨ d = b) n := litSum_mono hl fun d ⟨e, hem, ed⟩ => by
      rcases List.mem_append.mp hem with z | z
      · exact .inl ⟨e, z, ed⟩
      · unfold strE at z
        obtain ⟨k, _, rfl⟩ := List.mem_map.mp z
        exact .inr ed.symm
    have h2 := litSum_add hl (S := fun d => ∃ e ∈ es, e.1 = d) hb
    have h3 := h.cost
    omega
theorem rExtend_r {l b : Addr} {H : Hp} {Q : VK} : rExtend (.ref l) [.ref b] H Q = ∃ xs zs, H l = some (.lst xs) ∧ H b = some (.lst zs) ∧ xs.length + zs.length ≤ sizeLine ∧ Q .non (upd H l (.lst (xs ++ zs))) := propext ⟨fun ⟨_, _, xs, zs, e1, e2, h⟩ => by cases e1; cases e2; exact ⟨xs, zs, h⟩, fun ⟨xs, zs, h⟩ => ⟨l, b, xs, zs, rfl, rfl, h⟩⟩
theorem rSortU_r {K : PySem.W.Frag} {d : Nat} {B : Int} {a : Addr} {H : Hp} {Q : VK} : rSortU K d B [.ref a] H Q = ∃ xs : List V, SqL K H a xs ∧ xs.length < 64 ∧ (∀ x ∈ xs, ∃ ns, TupI K H x ns ∧ ns.length = d ∧ TS.Bd B ns) ∧ ∀ (ys : List V) (p : Addr), ys.Perm xs → ys.Pairwise (fun x y => ∀ n m, TupI K H x n → TupI K H y m → TS.code B n ≤ TS.code B m) → H p = none → Q (.ref p) (upd H p (.lst ys)) := propext ⟨fun ⟨_, xs, e, h⟩ => by cases e; exact ⟨xs, h⟩, fun ⟨xs, h⟩ => ⟨a, xs, rfl, h⟩⟩
theorem perm_map_inv {α β : Type} {f : α → β} : ∀ {l1 l2 : List β}, l1.Perm l2 → ∀ zs : List α, zs.map f = l1 → ∃ zs', zs.Perm zs' ∧ zs'.map f = l2 := by
  intro l1 l2 h
  induction h with
  | nil => exact fun zs e => ⟨zs, List.Perm.refl _, e⟩
  | cons x _ ih =>
    intro zs e
    cases zs with
    | nil => cases e
    | cons z zs =>
      obtain ⟨e1, e2⟩ := List.cons.inj e
      obtain ⟨zs', h1, h2⟩ := ih zs e2
      exact ⟨z :: zs', h1.cons z, by rw [List.map_cons, e1, h2]⟩
  | swap x y l =>
    intro zs e
    match zs, e with
    | a :: b :: zs, e =>
      obtain ⟨e1, e2⟩ := List.cons.inj e
      obtain ⟨e3, e4⟩ := List.cons.inj e2
      exact ⟨b :: a :: zs, List.Perm.swap b a zs, by rw [List.map_cons, List.map_cons, e1, e3, e4]⟩
  | trans _ _ ih1 ih2 =>
    intro zs e
    obtain ⟨z1, h1, h2⟩ := ih1 zs e
    obtain ⟨z2, h3, h4⟩ := ih2 z1 h2
    exact ⟨z2, h1.trans h3, h4⟩
end Bk

namespace Bk
open PySem PySem.Spec PyProof.Rows L2
/-! ### t >= u, of tuples of numbers -/
def geL (us vs : List Int) : Bool := Ob.lexAt (fun i => decide (us.getD i 0 = vs.getD i 0)) (fun i => decide (vs.getD i 0 ≤ us.getD i 0)) (decide (vs.length ≤ us.length)) 0 (min us.length vs.length)
def rGeT (K : PySem.W.Frag) : R2 := fun x y H Q => ∃ (p q : Addr) (us vs : List Int), x = .ref p ∧ y = .ref q ∧ SqT K H p (us.map V.int) ∧ SqT K H q (vs.map V.int) ∧ Q (.bl (geL us vs)) H
theorem rGeT_r {K : PySem.W.Frag} {p q : Addr} {H : Hp} {Q : VK} : rGeT K (.ref p) (.ref q) H Q = ∃ us vs, SqT K H p (us.map V.int) ∧ SqT K H q (vs.map V.int) ∧ Q (.bl (geL us vs)) H :=
  propext ⟨fun ⟨_, _, us, vs, e1, e2, h⟩ => by cases e1; cases e2; exact ⟨us, vs, h⟩, fun ⟨us, vs, h⟩ => ⟨p, q, us, vs, rfl, rfl, h⟩⟩
theorem op_geT {X : Cx} (hu : X.A.units < cLine) : OpR X (compareOp .GtE) (rGeT X.K) := by
  intro pins s σ H x y v u Q I rx ry ⟨p, r, us, vs, ex, ey, hp, hr, hQ⟩
  subst ex ey
  cases rx
  cases ry
  obtain ⟨as, k1, t1, _⟩ := I.tuple hp
  obtain ⟨bs, k2, t2, _⟩ := I.tuple hr
  have j1 : IntsAre as us := Vals.ints k1
  have j2 : IntsAre bs vs := Vals.ints k2
  have z1 : as.toArray.size = us.length := (List.size_toArray ..).trans j1.length
  have z2 : bs.toArray.size = vs.length := (List.size_toArray ..).trans j2.length
  have g1 : ∀ i (hi : i < as.toArray.size), ∃ t, as.toArray[i] = .int (us.getD i 0) t := fun i hi => PyProof.Rows.IntsAre.int_at j1 i _ (by simp at hi; simp [hi])
  have g2 : ∀ i (hi : i < bs.toArray.size), ∃ t, bs.toArray[i] = .int (vs.getD i 0) t := fun i hi => PyProof.Rows.IntsAre.int_at j2 i _ (by simp at hi; simp [hi])
  have W := Ob.RcOp.tuples_ge (A := X.A) (s := s) (e := fun i => decide (us.getD i 0 = vs.getD i 0)) (r := fun i => decide (vs.getD i 0 ≤ us.getD i 0)) t1 t2 hu
    (fun i hi hi' => by
      obtain ⟨t, e⟩ := g1 i hi
      obtain ⟨t', e'⟩ := g2 i hi'
      rw [e, e', show decide (us.getD i 0 = vs.getD i 0) = (us.getD i 0 == vs.getD i 0) by
        by_cases c : us.getD i 0 = vs.getD i 0
        · rw [decide_eq_true c, c]; exact (beq_self_eq_true _).symm
        · rw [decide_eq_false c]; exact (beq_eq_false_iff_ne.mpr c).symm]
      exact SeqAt.EqAt.int_int _ _ _ _)
    (fun i hi hi' _ => by
      obtain ⟨t, e⟩ := g1 i hi
      obtain ⟨t', e'⟩ := g2 i hi'
      rw [e, e']
      exact Ob.RcOp.ge_int _ _ _ _)
  rw [z1, z2] at W
  exact W X.prog X.w X.xe (EP X pins σ Q) ⟨.bl _, H, I, rfl, hQ⟩
theorem op_geT64 {X : Cx} (hu : X.A.units + 64 < cLine) : OpR X (compareOp .GtE) (rGeT X.K) := op_geT (by omega)
theorem geL_three {a b c d : Int} (h : a < c ∨ a = c ∧ b < d) : geL [a, 0, b] [c, 0, d] = false := by
  unfold geL
  simp only [List.length_cons, List.length_nil, Nat.min_self, Nat.zero_add, Ob.lexAt, List.getD_cons_zero, List.getD_cons_succ, decide_eq_true_eq]
  rcases h with h | ⟨rfl, h⟩
  · rw [if_neg (by omega)]
    exact decide_eq_false (by omega)
  · rw [if_pos trivial, if_neg (show ¬ b = d by omega), if_pos rfl]
    exact decide_eq_false (show ¬ d ≤ b by omega)
end Bk

namespace Bk
open PySem PySem.Spec PyProof.Rows L2
/-! ### the told plan is one plan -/
structure First (fs : Nat → Option Nat) (m b f : Nat) : Prop where
  lt : b < m
  eq : fs b = some f
  no : ∀ c, c < b → fs c = none
theorem First.uniq {fs : Nat → Option Nat} {m b f b' f' : Nat} (h : First fs m b f) (h' : First fs m b' f') : b = b' ∧ f = f' := by
  have e : b = b' := by
    rcases Nat.lt_trichotomy b b' with z | z | z
    · have := h'.no b z
      rw [h.eq] at this
      cases this
    · exact z
    · have := h.no b' z
      rw [h'.eq] at this
      cases this
  subst e
  have := h.eq.symm.trans h'.eq
  exact ⟨rfl, Option.some.inj this⟩
def fsOf (g : Good) (lights row : Nat → Int) (m : Nat) : Nat → Option Nat := fun b => fbo row (wantP g b) (row m) m (lights b)
structure IsRest (g : Good) (lights row : Nat → Int) (rest : Nat → List (Nat × Nat)) (n : Nat) : Prop where
  zero : rest 0 = []
  down : ∀ m, m < n → wantN g m = 0 → row (m + 1) = row m → rest (m + 1) = rest m
  step : ∀ m, m < n → ¬ (wantN g m = 0 ∧ row (m + 1) = row m) → ∀ b f, First (fsOf g lights row (m + 1)) (m + 1) b f → rest (m + 1) = strE g b f (m + 1) ++ rest f
open Classical in
noncomputable def restOf (g : Good) (lights row : Nat → Int) : Nat → List (Nat × Nat)
  | 0 => []
  | m + 1 => if wantN g m = 0 ∧ row (m + 1) = row m then restOf g lights row m else
    if h : ∃ z : Nat × Nat, First (fsOf g lights row (m + 1)) (m + 1) z.1 z.2 ∧ z.2 < m + 1 then strE g h.choose.1 h.choose.2 (m + 1) ++ restOf g lights row h.choose.2 else []
termination_by m => m
decreasing_by
  · omega
  · exact h.choose_spec.2
theorem restOf_is (g : Good) (lights row : Nat → Int) (n : Nat) : IsRest g lights row (restOf g lights row) n := by
  refine ⟨by unfold restOf; rfl, fun m _ h1 h2 => ?_, fun m _ h b f hF => ?_⟩
  · rw [restOf.eq_2, if_pos ⟨h1, h2⟩]
  · have hf : f < m + 1 := (fbo_some hF.eq).1
    have hx : ∃ z : Nat × Nat, First (fsOf g lights row (m + 1)) (m + 1) z.1 z.2 ∧ z.2 < m + 1 := ⟨(b, f), hF, hf⟩
    rw [restOf.eq_2, if_neg h, dif_pos hx]
    obtain ⟨e1, e2⟩ := hx.choose_spec.1.uniq hF
    rw [e1, e2]
theorem fbo_congr {row row' : Nat → Int} {w : Nat → Option Int} {T : Int} : ∀ {m : Nat} {c : Int}, (∀ i, i < m → row i = row' i) → fbo row w T m c = fbo row' w T m c
  | 0, _, _ => rfl
  | m + 1, c, h => by
    unfold fbo
    rw [h m (by omega)]
    cases w m with
    | none => rfl
    | some p =>
      simp only
      rw [fbo_congr fun i hi => h i (by omega)]
theorem IsRest.congr {g : Good} {lights row row' : Nat → Int} {rest : Nat → List (Nat × Nat)} {n : Nat} (h : IsRest g lights row rest n) (e : ∀ i, i ≤ n → row i = row' i) : IsRest g lights row' rest n := by
  have ef : ∀ m, m < n → fsOf g lights row (m + 1) = fsOf g lights row' (m + 1) := fun m hm => by
    funext b
    unfold fsOf
    rw [e (m + 1) (by omega)]
    exact fbo_congr fun i hi => e i (by omega)
  refine ⟨h.zero, fun m hm h1 h2 => h.down m hm h1 (by rw [e _ (by omega), e _ (by omega)]; exact h2), fun m hm hn b f hF => ?_⟩
  rw [← ef m hm] at hF
  exact h.step m hm (by rw [e _ (by omega), e _ (by omega)]; exact hn) b f hF
theorem code4 (a b c : Int) : TS.code 1000000001 [a, 0, b, c] = a * 1000000003000000003000000001 + b * 1000000001 + c := by
  simp only [TS.code, List.length_cons, List.length_nil]
  omega
theorem code4_le {a b c a' b' c' : Int} (h : TS.code 1000000001 [a, 0, b, c] ≤ TS.code 1000000001 [a', 0, b', c']) (hb : 0 ≤ b ∧ b < 1000) (hb' : 0 ≤ b' ∧ b' < 1000) (hc : 0 ≤ c ∧ c ≤ 1000000000) (hc' : 0 ≤ c' ∧ c' ≤ 1000000000) : a < a' ∨ a = a' ∧ (b < b' ∨ b = b' ∧ c ≤ c') := by
  rw [code4, code4] at h
  omega
end Bk

namespace Bk
open PySem PySem.Spec PyProof.Rows L2
theorem cxW {CX : CXT} {P : Program} {w : World} {K : PySem.W.Frag} {mg : Str → Option Value} {base : Heap} {N : List Str} {qual : Str} {scope : Scope} {f : Addr} {cd : Value} {A : Around} {outer : List Env} {s : Shared} {H : Hp} {E : XK} :
    (cxOf CX P w K mg base N qual scope f cd A outer s H E).w = w := rfl
theorem perm_sum {l1 l2 : List Int} (h : l1.Perm l2) : l1.sum = l2.sum := by
  induction h with
  | nil => rfl
  | cons x _ ih => rw [List.sum_cons, List.sum_cons, ih]
  | swap x y l => rw [List.sum_cons, List.sum_cons, List.sum_cons, List.sum_cons]; omega
  | trans _ _ h1 h2 => exact h1.trans h2
theorem sumN_two (f : Nat → Int) (a : Nat) : ∀ b, sumN f (a + b) = sumN f a + sumN (fun i => f (a + i)) b
  | 0 => by show sumN f (a + 0) = sumN f a + 0; rw [Nat.add_zero]; omega
  | b + 1 => by
    show sumN f (a + b) + f (a + b) = sumN f a + (sumN (fun i => f (a + i)) b + f (a + b))
    rw [sumN_two f a b]
    omega
theorem sumN_cong {f g : Nat → Int} : ∀ n, (∀ k, k < n → f k = g k) → sumN f n = sumN g n
  | 0, _ => rfl
  | n + 1, h => by
    show sumN f n + f n = sumN g n + g n
    rw [sumN_cong n fun k hk => h k (by omega), h n (by omega)]
/-- prices that are let by come to no more than the least cost -/
theorem lets_row {g : Good} {lights pr row : Nat → Int} {n : Nat} (hL : Lets g lights pr n) (h0 : ∀ k, k < n → wantN g k = 0 → pr k = 0) (hR : IsRow g lights row n) : ∀ m, m ≤ n → sumN pr m ≤ row m := by
  intro m
  induction m using Nat.strongRecOn with
  | ind m ih =>
    intro hm
    cases m with
    | zero => rw [hR.zero]; exact Int.le_refl _
    | succ m =>
      rcases hR.some m (by omega) with ⟨b, f, s, h1, h2, h3, h4⟩ | ⟨⟨d, hd, h1⟩, h2⟩
      · have a := ih f (by omega) (by omega)
        have b' := hL b f (m + 1 - f) s (by omega) (by omega) h3
        have c := sumN_two pr f (m + 1 - f)
        rw [show f + (m + 1 - f) = m + 1 by omega] at c
        omega
      · have a := ih m (by omega) (by omega)
        have b := h0 m (by omega) (by rw [wantN_at hd]; exact h1)
        show sumN pr m + pr m ≤ row (m + 1)
        omega
theorem sum_filter {f : Nat → Int} {p : Nat → Bool} : ∀ n, (∀ k, k < n → p k = false → f k = 0) → (((List.range n).filter p).map f).sum = sumN f n
  | 0, _ => rfl
  | n + 1, h => by
    have ih := sum_filter n fun k hk => h k (by omega)
    rw [List.range_succ, List.filter_append, List.map_append, List.sum_append, ih]
    show sumN f n + _ = sumN f n + f n
    congr 1
    by_cases e : p n = true
    · rw [List.filter_cons_of_pos e]
      exact List.sum_singleton ..
    · rw [List.filter_cons_of_neg e, h n (by omega) (by simpa using e)]
      rfl
theorem nodup_find {es : List (Nat × Nat)} (hn : (es.map Prod.snd).Nodup) {e : Nat × Nat} (he : e ∈ es) : es.find? (fun x => decide (x.2 = e.2)) = some e := by
  induction es with
  | nil => cases he
  | cons x r ih =>
    rw [List.map_cons, List.nodup_cons] at hn
    rcases List.mem_cons.mp he with rfl | h
    · exact List.find?_cons_of_pos (decide_eq_true rfl)
    · have : ¬ x.2 = e.2 := fun z => hn.1 (z ▸ List.mem_map.mpr ⟨e, h, rfl⟩)
      rw [List.find?_cons_of_neg (by simpa using this)]
      exact ih hn.2 h
/-- the told plan costs the least -/
theorem CheapI.eq {g : Good} {lights row : Nat → Int} {n : Nat} {es : List (Nat × Nat)} (h : CheapI g lights row n 0 es) (hR : IsRow g lights row n) (hn : n ≤ g.days.length) (hl : ∀ b, 0 ≤ lights b) (N : NonNegW g.days) (hlf : ∀ l, g.life = some l → 0 ≤ l) : litSum lights (fun d => ∃ e ∈ es, e.1 = d) n + loavesE g es = row n := by
  have hc := h.cost
  rw [hR.zero] at hc
  have hnd : (es.map Prod.snd).Nodup := h.days.nodup_iff.mpr (List.nodup_range.sublist List.filter_sublist)
  let p : Nat → Int := fun k => ((es.find? fun x => decide (x.2 = k)).map fun e => (loafP g e.1 e.2).getD 0).getD 0
  have hp : ∀ e ∈ es, p e.2 = (loafP g e.1 e.2).getD 0 := fun e he => by
    show ((es.find? fun x => decide (x.2 = e.2)).map _).getD 0 = _
    rw [nodup_find hnd he]
    rfl
  have e1 : loavesE g es = ((es.map Prod.snd).map fun k => wantN g k * p k).sum := by
    unfold loavesE
    rw [List.map_map]
    congr 1
    apply List.map_congr_left
    intro e he
    show _ = wantN g e.2 * p e.2
    rw [hp e he]
  have e2 : ((es.map Prod.snd).map fun k => wantN g k * p k).sum = sumN (fun k => wantN g k * p k) n := by
    rw [perm_sum (h.days.map _)]
    refine sum_filter n fun k _ hk => ?_
    have : wantN g k = 0 := by
      have := of_decide_eq_false hk
      by_cases z : wantN g k = 0
      · exact z
      · exact absurd ⟨Nat.zero_le _, z⟩ this
    rw [this, Int.zero_mul]
  have hcov : Cov g lights n n (fun d => ∃ e ∈ es, e.1 = d) p (litSum lights (fun d => ∃ e ∈ es, e.1 = d) n + loavesE g es) := by
    refine ⟨fun k hk hw => ?_, by rw [e1, e2]; exact Int.le_refl _⟩
    have hm : k ∈ (List.range n).filter fun k => decide (0 ≤ k ∧ wantN g k ≠ 0) := List.mem_filter.mpr ⟨List.mem_range.mpr hk, decide_eq_true ⟨Nat.zero_le _, hw⟩⟩
    obtain ⟨e, he, rfl⟩ := List.mem_map.mp (h.days.mem_iff.mpr hm)
    obtain ⟨hb, z, hz⟩ := h.price e he
    exact ⟨e.1, hb, ⟨e, he, rfl⟩, by rw [hp e he, hz]; rfl⟩
  have := row_le_cov hR hn hl N hlf hcov
  omega
/-! ### days alike, nights for nothing -/
def flatG (ws : List Int) : Good := ⟨ws.map fun w => ⟨w, 5, 0, some 0⟩, none⟩
theorem sumO_zero : ∀ l : List (Option Int), (∀ o ∈ l, o = some 0) → sumO l = some 0
  | [], _ => rfl
  | o :: r, h => by
    rw [h o List.mem_cons_self]
    show (sumO r).map (0 + ·) = some 0
    rw [sumO_zero r fun x hx => h x (List.mem_cons_of_mem _ hx)]
    rfl
theorem sum_zero' : ∀ l : List Int, (∀ o ∈ l, o = 0) → l.sum = 0
  | [], _ => rfl
  | o :: r, h => by
    rw [List.sum_cons, h o List.mem_cons_self, sum_zero' r fun x hx => h x (List.mem_cons_of_mem _ hx)]
    rfl
theorem flat_loaf (ws : List Int) {b k : Nat} (hb : b < ws.length) : loafP (flatG ws) b k = some 5 := by
  unfold loafP flatG
  simp only
  rw [List.getElem?_map, List.getElem?_eq_getElem hb]
  simp only [Option.map_some]
  split
  · rw [show finesL (ws.map fun w => (⟨w, 5, 0, some 0⟩ : Day)) k b = some 0 by
      unfold finesL
      refine sumO_zero _ fun o ho => ?_
      obtain ⟨d, hd, rfl⟩ := List.mem_map.mp ho
      obtain ⟨w, _, rfl⟩ := List.mem_map.mp (List.mem_of_mem_drop (List.mem_of_mem_take hd))
      rfl]
    rfl
  · rw [show keepsL (ws.map fun w => (⟨w, 5, 0, some 0⟩ : Day)) b k = 0 by
      unfold keepsL
      refine sum_zero' _ fun o ho => ?_
      obtain ⟨d, hd, rfl⟩ := List.mem_map.mp ho
      obtain ⟨w, _, rfl⟩ := List.mem_map.mp (List.mem_of_mem_drop (List.mem_of_mem_take hd))
      rfl]
    rfl
theorem flat_wantN (ws : List Int) {k : Nat} (hk : k < ws.length) : wantN (flatG ws) k = rowF ws k := by
  unfold wantN flatG rowF
  simp only
  rw [List.getElem?_map, List.getElem?_eq_getElem hk, List.getD_eq_getElem?_getD, List.getElem?_eq_getElem hk]
  rfl
theorem flat_wantP (ws : List Int) {b k : Nat} (hb : b < ws.length) (hk : k < ws.length) : wantP (flatG ws) b k = some (rowF ws k * 5) := by
  unfold wantP
  rw [flat_loaf ws hb]
  have : (flatG ws).days[k]? = some ⟨rowF ws k, 5, 0, some 0⟩ := by
    unfold flatG rowF
    simp only
    rw [List.getElem?_map, List.getElem?_eq_getElem hk, List.getD_eq_getElem?_getD, List.getElem?_eq_getElem hk]
    rfl
  rw [this]
  simp only
  split
  · rename_i e
    rw [e]
    rfl
  · rfl
theorem flat_seg (ws : List Int) {b f : Nat} (hb : b < ws.length) : ∀ m, f + m ≤ ws.length → segP (wantP (flatG ws) b) f m = some (sumN (fun i => rowF ws (f + i) * 5) m)
  | 0, _ => rfl
  | m + 1, h => segP_join 1 m (flat_seg ws hb m (by omega)) (segP_one (flat_wantP ws hb (by omega)))
theorem sumN_ind (f c : Nat) (v : Int) : ∀ m, sumN (fun i => if f + i = c then v else 0) m = if f ≤ c ∧ c < f + m then v else 0
  | 0 => by rw [if_neg (by omega)]; rfl
  | m + 1 => by
    show sumN (fun i => if f + i = c then v else 0) m + (if f + m = c then v else 0) = _
    rw [sumN_ind f c v m]
    by_cases a : f + m = c
    · rw [if_neg (by omega), if_pos a, if_pos (by omega), Int.zero_add]
    · rw [if_neg a, Int.add_zero]
      by_cases b : f ≤ c ∧ c < f + m
      · rw [if_pos b, if_pos (by omega)]
      · rw [if_neg b, if_neg (by omega)]
theorem sumN_plus (f g : Nat → Int) : ∀ m, sumN (fun i => f i + g i) m = sumN f m + sumN g m
  | 0 => rfl
  | m + 1 => by
    show sumN (fun i => f i + g i) m + (f m + g m) = sumN f m + f m + (sumN g m + g m)
    rw [sumN_plus f g m]
    omega
/-- the first wanted day's price bears the light -/
theorem far_lets {ws ps : List Int} {L : Nat → Int} {c : Nat} (hL : ∀ b, b < ws.length → L b = 7) (hl : ps.length = ws.length) (hp : ∀ k, k < ws.length → rowF ps k = rowF ws k * 5 + (if 0 + k = c then 7 else 0)) : Lets (flatG ws) L (rowF ps) ws.length := by
  intro b f m s hb hm hs
  rw [flat_seg ws hb m hm] at hs
  cases hs
  have e : sumN (fun i => rowF ps (f + i)) m = sumN (fun i => rowF ws (f + i) * 5) m + sumN (fun i => if f + i = c then 7 else 0) m := by
    rw [← sumN_plus]
    refine sumN_cong m fun k hk => ?_
    rw [hp (f + k) (by omega), Nat.zero_add]
  rw [e, sumN_ind, hL b hb]
  split <;> omega
theorem far_sum {ws ps : List Int} {c : Nat} {v : Int} (hl : ps.length = ws.length) (hc : c < ws.length) (hp : ∀ k, k < ws.length → rowF ps k = rowF ws k * 5 + (if 0 + k = c then v else 0)) : sumN (rowF ps) ws.length = sumN (fun i => rowF ws i * 5) ws.length + v := by
  have e : sumN (rowF ps) ws.length = sumN (fun i => rowF ws i * 5) ws.length + sumN (fun i => if 0 + i = c then v else 0) ws.length := by
    rw [← sumN_plus]
    exact sumN_cong _ hp
  rw [e, sumN_ind, if_pos (by omega)]
theorem far_row {ws : List Int} {L row : Nat → Int} (hL : ∀ b, b < ws.length → L b = 7) (h1 : 1 ≤ ws.length) (hR : IsRow (flatG ws) L row ws.length) : row ws.length ≤ 7 + sumN (fun i => rowF ws i * 5) ws.length := by
  have hs := flat_seg ws (b := 0) (f := 0) (by omega) ws.length (by omega)
  have := hR.least (ws.length - 1) (by omega) (row 0 + 7 + sumN (fun i => rowF ws (0 + i) * 5) ws.length) (.inl ⟨0, 0, _, by omega, by omega, by rw [show ws.length - 1 + 1 - 0 = ws.length by omega]; exact hs, by rw [hL 0 (by omega)]⟩)
  rw [show ws.length - 1 + 1 = ws.length by omega, hR.zero] at this
  have e : sumN (fun i => rowF ws (0 + i) * 5) ws.length = sumN (fun i => rowF ws i * 5) ws.length := sumN_cong _ fun k _ => by rw [Nat.zero_add]
  omega
end Bk

namespace Bk
open PySem PySem.Spec PyProof.Rows L2
/-! ### one price for all loaves: known costs -/
theorem seg_c {g : Good} {b f : Nat} {c : Int} : ∀ {m : Nat} {s : Int}, (∀ i z, i < m → loafP g b (f + i) = some z → z = c) → segP (wantP g b) f m = some s → s = c * sumN (fun i => wantN g (f + i)) m
  | 0, s, _, h => by
    cases h
    show (0 : Int) = c * 0
    omega
  | m + 1, s, hp, h => by
    obtain ⟨x, y, h1, h2, rfl⟩ := segP_succ h
    have ih := seg_c (fun i z hi => hp i z (by omega)) h1
    show x + y = c * (sumN (fun i => wantN g (f + i)) m + wantN g (f + m))
    rw [Int.mul_add, ← ih]
    rcases wantP_inv h2 with ⟨e1, e2⟩ | ⟨z, e1, e2⟩
    · rw [e1, e2, Int.mul_zero]
    · rw [e2, hp m z (by omega) e1, Int.mul_comm]
theorem seg_mk {g : Good} {b f : Nat} {c : Int} : ∀ {m : Nat}, f + m ≤ g.days.length → (∀ i, i < m → wantN g (f + i) ≠ 0 → loafP g b (f + i) = some c) → segP (wantP g b) f m = some (c * sumN (fun i => wantN g (f + i)) m)
  | 0, _, _ => by
    show some 0 = some (c * 0)
    rw [Int.mul_zero]
  | m + 1, hl, hp => by
    have ih := seg_mk (m := m) (by omega) fun i hi => hp i (by omega)
    show _ = some (c * (sumN (fun i => wantN g (f + i)) m + wantN g (f + m)))
    rw [Int.mul_add, Int.mul_comm c (wantN g (f + m))]
    exact segP_add ih (wantP_of (by omega) (hp m (by omega)))
theorem IsRow.cut {g : Good} {lights row : Nat → Int} {n m : Nat} (h : IsRow g lights row n) (hm : m ≤ n) : IsRow g lights row m := ⟨h.zero, fun k hk => h.some k (by omega), fun k hk => h.least k (by omega)⟩
theorem known_zero {g : Good} {L row : Nat → Int} {n m : Nat} (hR : IsRow g L row n) (hn : n ≤ g.days.length) (hl : ∀ b, 0 ≤ L b) (N : NonNegW g.days) (hm : m ≤ n) (h0 : ∀ k, k < m → wantN g k = 0) : row m = 0 := by
  have h1 := row_flat hR (f := 0) m (by omega) hm fun k _ hk => wantN_zero (by omega) (h0 k hk)
  rw [hR.zero] at h1
  have h2 := lets_row (pr := fun _ => 0) (n := m) (fun b f k s hb hk hs => by
    have e := sumN_zero (f := fun i : Nat => (0 : Int)) k fun _ _ => rfl
    have := segP_nonneg (fun k z h => wantP_nonneg N h) hs
    have := hl b
    show sumN (fun _ => 0) k ≤ _
    omega) (fun _ _ _ => rfl) (hR.cut hm) m (Nat.le_refl _)
  rw [sumN_zero m fun _ _ => rfl] at h2
  omega
theorem sumN_mul (c : Int) (f : Nat → Int) : ∀ m, sumN (fun i => c * f i) m = c * sumN f m
  | 0 => by show (0 : Int) = c * 0; omega
  | m + 1 => by
    show sumN (fun i => c * f i) m + c * f m = c * (sumN f m + f m)
    rw [sumN_mul c f m, Int.mul_add]
theorem known_one {g : Good} {L row : Nat → Int} {n m k0 b0 : Nat} {c : Int} (hR : IsRow g L row n) (hn : n ≤ g.days.length) (hl : ∀ b, 0 ≤ L b) (hm : m ≤ n) (hp : ∀ b k z, b < n → k < n → loafP g b k = some z → z = c) (hk : k0 < m) (hw : wantN g k0 ≠ 0) (hb : b0 < m)
    (ha : ∀ k, k < m → wantN g k ≠ 0 → loafP g b0 k = some c) (hmin : ∀ b z, b < m → loafP g b k0 = some z → L b0 ≤ L b) : row m = c * sumN (wantN g) m + L b0 := by
  have up := hR.least (m - 1) (by omega) _ (.inl ⟨b0, 0, _, by omega, by omega, seg_mk (c := c) (by omega) fun i hi => ?_, rfl⟩)
  · rw [show m - 1 + 1 = m by omega, hR.zero, show m - 0 = m by omega] at up
    have e : sumN (fun i => wantN g (0 + i)) m = sumN (wantN g) m := sumN_cong m fun k _ => by rw [Nat.zero_add]
    rw [e] at up
    have lo := lets_row (pr := fun k => c * wantN g k + (if 0 + k = k0 then L b0 else 0)) (n := m) (fun b f k s hb1 hk1 hs => by
      have hs2 := seg_c (c := c) (fun i z hi hz => hp b (f + i) z (by omega) (by omega) hz) hs
      have e2 : sumN (fun i => c * wantN g (f + i) + (if 0 + (f + i) = k0 then L b0 else 0)) k = c * sumN (fun i => wantN g (f + i)) k + sumN (fun i => if f + i = k0 then L b0 else 0) k := by
        rw [sumN_plus, sumN_mul]
        congr 1
        exact sumN_cong k fun i _ => by rw [Nat.zero_add]
      show sumN (fun i => c * wantN g (f + i) + (if 0 + (f + i) = k0 then L b0 else 0)) k ≤ _
      rw [e2, ← hs2, sumN_ind]
      by_cases a : f ≤ k0 ∧ k0 < f + k
      · rw [if_pos a]
        obtain ⟨z, hz⟩ := segP_all hs (k0 - f) (by omega)
        rw [show f + (k0 - f) = k0 by omega] at hz
        rcases wantP_inv hz with ⟨e1, _⟩ | ⟨y, e1, _⟩
        · exact absurd e1 hw
        · have := hmin b y hb1 e1
          omega
      · rw [if_neg a]
        have := hl b
        omega) (fun k hk1 h0 => by
      show c * wantN g k + (if 0 + k = k0 then L b0 else 0) = 0
      rw [h0, if_neg (fun e => hw (by rw [← e, Nat.zero_add]; exact h0))]
      omega) (hR.cut hm) m (Nat.le_refl _)
    have e3 : sumN (fun k => c * wantN g k + (if 0 + k = k0 then L b0 else 0)) m = c * sumN (wantN g) m + L b0 := by
      rw [sumN_plus, sumN_mul, sumN_ind, if_pos (by omega)]
    rw [e3] at lo
    omega
  · rw [Nat.zero_add]
    exact ha i (by omega)
theorem sumN_ind2 (f c : Nat) (v : Nat → Int) : ∀ m, (∀ i, i < m → f + i ≠ c → v (f + i) = 0) → sumN (fun i => v (f + i)) m = if f ≤ c ∧ c < f + m then v c else 0
  | 0, _ => by rw [if_neg (by omega)]; rfl
  | m + 1, h => by
    show sumN (fun i => v (f + i)) m + v (f + m) = _
    rw [sumN_ind2 f c v m fun i hi => h i (by omega)]
    by_cases a : f + m = c
    · rw [if_neg (by omega), if_pos (by omega), a, Int.zero_add]
    · rw [h m (by omega) a, Int.add_zero]
      by_cases b : f ≤ c ∧ c < f + m
      · rw [if_pos b, if_pos (by omega)]
      · rw [if_neg b, if_neg (by omega)]
/-- the light of a wanted day, else nothing -/
def litW (g : Good) (L : Nat → Int) (k : Nat) : Int := if wantN g k = 0 then 0 else L k
theorem known_each {g : Good} {L row : Nat → Int} {n : Nat} {c : Int} (hR : IsRow g L row n) (hn : n ≤ g.days.length) (hl : ∀ b, 0 ≤ L b) (hp : ∀ b k z, b < n → k < n → loafP g b k = some z → z = c ∧ b = k) (hs : ∀ k, k < n → loafP g k k = some c) : ∀ m, m ≤ n → row m = c * sumN (wantN g) m + sumN (litW g L) m := by
  have up : ∀ m, m ≤ n → row m ≤ c * sumN (wantN g) m + sumN (litW g L) m := by
    intro m
    induction m with
    | zero =>
      intro _
      rw [hR.zero]
      show (0 : Int) ≤ c * 0 + 0
      omega
    | succ m ih =>
      intro hm
      have ih := ih (by omega)
      show row (m + 1) ≤ c * (sumN (wantN g) m + wantN g m) + (sumN (litW g L) m + litW g L m)
      rw [Int.mul_add]
      by_cases e : wantN g m = 0
      · have := hR.least m (by omega) _ (.inr ⟨wantN_zero (by omega) e, rfl⟩)
        unfold litW at ih ⊢
        rw [if_pos e, e, Int.mul_zero]
        omega
      · have := hR.least m (by omega) _ (.inl ⟨m, m, _, Nat.le_refl _, Nat.le_refl _, seg_mk (c := c) (m := m + 1 - m) (by omega) fun i hi _ => by
          rw [show m + i = m by omega]
          exact hs m (by omega), rfl⟩)
        rw [show m + 1 - m = 0 + 1 by omega] at this
        have e2 : sumN (fun i => wantN g (m + i)) (0 + 1) = wantN g m := by
          show 0 + wantN g (m + 0) = wantN g m
          rw [Int.zero_add, Nat.add_zero]
        rw [e2] at this
        have e3 : litW g L m = L m := if_neg e
        rw [e3]
        omega
  intro m hm
  have up := up m hm
  have lo := lets_row (pr := fun k => c * wantN g k + litW g L k) (n := m) (fun b f k s hb1 hk1 hs => by
    have hs2 := seg_c (c := c) (fun i z hi hz => (hp b (f + i) z (by omega) (by omega) hz).1) hs
    show sumN (fun i => c * wantN g (f + i) + litW g L (f + i)) k ≤ _
    rw [sumN_plus, sumN_mul, ← hs2, sumN_ind2 f b (litW g L) k fun i hi hne => ?_]
    · have := hl b
      unfold litW
      split
      · split <;> omega
      · omega
    · obtain ⟨z, hz⟩ := segP_all hs i (by omega)
      rcases wantP_inv hz with ⟨e1, _⟩ | ⟨y, e1, _⟩
      · exact if_pos e1
      · exact absurd (hp b (f + i) y (by omega) (by omega) e1).2.symm hne) (fun k hk1 h0 => by
    show c * wantN g k + litW g L k = 0
    unfold litW
    rw [h0, if_pos rfl]
    omega) (hR.cut hm) m (Nat.le_refl _)
  rw [sumN_plus, sumN_mul] at lo
  omega
/-! ### the told plan -/
theorem plan_wants {g : Good} {L row : Nat → Int} {n : Nat} {es : List (Nat × Nat)} (h : CheapI g L row n 0 es) : (es.map fun e => wantN g e.2).sum = sumN (wantN g) n := by
  have e1 : (es.map fun e => wantN g e.2) = (es.map Prod.snd).map (wantN g) := by rw [List.map_map]; rfl
  rw [e1, perm_sum (h.days.map _)]
  refine sum_filter n fun k _ hk => ?_
  have := of_decide_eq_false hk
  by_cases z : wantN g k = 0
  · exact z
  · exact absurd ⟨Nat.zero_le _, z⟩ this
theorem plan_mem {g : Good} {L row : Nat → Int} {n : Nat} {es : List (Nat × Nat)} (h : CheapI g L row n 0 es) {e : Nat × Nat} (he : e ∈ es) : e.1 < n ∧ e.2 < n ∧ wantN g e.2 ≠ 0 := by
  have h1 : e.2 ∈ es.map Prod.snd := List.mem_map.mpr ⟨e, he, rfl⟩
  have h2 := List.mem_filter.mp (h.days.mem_iff.mp h1)
  exact ⟨(h.price _ he).1, List.mem_range.mp h2.1, (of_decide_eq_true h2.2).2⟩
theorem plan_day {g : Good} {L row : Nat → Int} {n : Nat} {es : List (Nat × Nat)} (h : CheapI g L row n 0 es) {k : Nat} (hk : k < n) (hw : wantN g k ≠ 0) : ∃ e ∈ es, e.2 = k := by
  have hm : k ∈ (List.range n).filter fun k => decide (0 ≤ k ∧ wantN g k ≠ 0) := List.mem_filter.mpr ⟨List.mem_range.mpr hk, decide_eq_true ⟨Nat.zero_le _, hw⟩⟩
  obtain ⟨e, he, e2⟩ := List.mem_map.mp (h.days.mem_iff.mpr hm)
  exact ⟨e, he, e2⟩
theorem plan_loaves {g : Good} {L row : Nat → Int} {n : Nat} {c : Int} {es : List (Nat × Nat)} (h : CheapI g L row n 0 es) (hp : ∀ b k z, b < n → k < n → loafP g b k = some z → z = c) : loavesE g es = c * sumN (wantN g) n := by
  rw [← plan_wants h]
  unfold loavesE
  have key : ∀ fs : List (Nat × Nat), (∀ e ∈ fs, (loafP g e.1 e.2).getD 0 = c) → (fs.map fun e => wantN g e.2 * (loafP g e.1 e.2).getD 0).sum = c * (fs.map fun e => wantN g e.2).sum := by
    intro fs
    induction fs with
    | nil => intro _; show (0 : Int) = c * 0; omega
    | cons e r ih =>
      intro hh
      rw [List.map_cons, List.map_cons, List.sum_cons, List.sum_cons, ih fun x hx => hh x (List.mem_cons_of_mem _ hx), hh e List.mem_cons_self, Int.mul_add, Int.mul_comm]
  refine key es fun e he => ?_
  obtain ⟨h1, h2, _⟩ := plan_mem h he
  obtain ⟨_, z, hz⟩ := h.price e he
  rw [hz]
  exact hp _ _ _ h1 h2 hz
theorem litSum_two {L : Nat → Int} (hl : ∀ b, 0 ≤ L b) {S : Nat → Prop} {n a b : Nat} (ha : a < n) (hb : b < n) (hab : a ≠ b) (sa : S a) (sb : S b) : L a + L b ≤ litSum L S n := by
  have h1 := sumN_one (L := L) n ha
  have h2 := sumN_one (L := L) n hb
  rw [← h1, ← h2, ← sumN_add]
  unfold litSum
  refine sumN_le n fun k _ => ?_
  by_cases e1 : k = a
  · rw [if_pos e1, if_neg (by omega), e1, if_pos sa]
    omega
  · by_cases e2 : k = b
    · rw [if_neg e1, if_pos e2, e2, if_pos sb]
      omega
    · rw [if_neg e1, if_neg e2]
      split
      · have := hl k
        omega
      · omega
theorem plan_one {g : Good} {L row : Nat → Int} {n k0 b0 : Nat} {c : Int} {es : List (Nat × Nat)} (h : CheapI g L row n 0 es) (hR : IsRow g L row n) (hn : n ≤ g.days.length) (hl : ∀ b, 0 ≤ L b) (hpos : ∀ b, b < n → 0 < L b) (N : NonNegW g.days) (hlf : ∀ l, g.life = some l → 0 ≤ l) (hp : ∀ b k z, b < n → k < n → loafP g b k = some z → z = c)
    (hk : k0 < n) (hw : wantN g k0 ≠ 0) (hmin : ∀ b z, b < n → loafP g b k0 = some z → L b0 ≤ L b) (hr : row n = c * sumN (wantN g) n + L b0) : ∃ b, b < n ∧ ∀ d, (∃ e ∈ es, e.1 = d) ↔ d = b := by
  obtain ⟨e0, he0, ek⟩ := plan_day h hk hw
  refine ⟨e0.1, (plan_mem h he0).1, fun d => ⟨fun ⟨e, he, hd⟩ => ?_, fun hd => ⟨e0, he0, hd.symm⟩⟩⟩
  apply Classical.byContradiction
  intro hne
  have hc := h.eq hR hn hl N hlf
  rw [plan_loaves h hp, hr] at hc
  have hd1 := (plan_mem h he).1
  rw [hd] at hd1
  have h0 := (plan_mem h he0).1
  have := litSum_two hl (S := fun d => ∃ e ∈ es, e.1 = d) hd1 h0 hne ⟨e, he, hd⟩ ⟨e0, he0, rfl⟩
  obtain ⟨_, z, hz⟩ := h.price e0 he0
  rw [ek] at hz
  have := hmin _ _ h0 hz
  have := hpos _ hd1
  omega
/-! ### the three families -/
def famG (ws : List Int) (c : Int) (f l : Option Int) : Good := ⟨ws.map fun w => ⟨w, c, 0, f⟩, l⟩
theorem fam_len (ws : List Int) (c : Int) (f l : Option Int) : (famG ws c f l).days.length = ws.length := List.length_map _
theorem fam_wantN (ws : List Int) (c : Int) (f l : Option Int) (k : Nat) : wantN (famG ws c f l) k = rowF ws k := by
  unfold wantN famG rowF
  simp only
  rw [List.getElem?_map, List.getD_eq_getElem?_getD]
  cases ws[k]? with
  | none => rfl
  | some w => rfl
theorem fam_keeps (ws : List Int) (c : Int) (f : Option Int) (b k : Nat) : keepsL (ws.map fun w => (⟨w, c, 0, f⟩ : Day)) b k = 0 := by
  unfold keepsL
  refine sum_zero' _ fun o ho => ?_
  obtain ⟨d, hd, rfl⟩ := List.mem_map.mp ho
  obtain ⟨w, _, rfl⟩ := List.mem_map.mp (List.mem_of_mem_drop (List.mem_of_mem_take hd))
  rfl
theorem sumO_nones {l : List (Option Int)} (h : none ∈ l) : sumO l = none := by
  induction l with
  | nil => cases h
  | cons o r ih =>
    cases o with
    | none => rfl
    | some x =>
      show (sumO r).map (x + ·) = none
      rw [ih (by rcases List.mem_cons.mp h with e | e; exact absurd e (by simp); exact e)]
      rfl
/-- which days may bake for which, by the way -/
def May (way : Nat) (b k : Nat) : Prop := way = 0 ∨ way = 1 ∧ b ≤ k ∨ way = 2 ∧ b = k
def famF (way : Nat) : Option Int := if way = 0 then some 0 else none
def famL (way : Nat) : Option Int := if way = 2 then some 0 else none
theorem fam_loaf (ws : List Int) (c : Int) {way b k : Nat} (hway : way < 3) (hb : b < ws.length) (hk : k < ws.length) : (May way b k → loafP (famG ws c (famF way) (famL way)) b k = some c) ∧ (¬ May way b k → loafP (famG ws c (famF way) (famL way)) b k = none) := by
  have hd : (ws.map fun w => (⟨w, c, 0, famF way⟩ : Day))[b]? = some ⟨ws[b], c, 0, famF way⟩ := by
    rw [List.getElem?_map, List.getElem?_eq_getElem hb]
    rfl
  unfold loafP famG
  simp only
  rw [hd, fam_keeps]
  simp only
  by_cases hkb : k < b
  · rw [if_pos hkb]
    by_cases h0 : way = 0
    · subst h0
      have : finesL (ws.map fun w => (⟨w, c, 0, famF 0⟩ : Day)) k b = some 0 := by
        unfold finesL
        refine sumO_zero _ fun o ho => ?_
        obtain ⟨d, hd, rfl⟩ := List.mem_map.mp ho
        obtain ⟨w, _, rfl⟩ := List.mem_map.mp (List.mem_of_mem_drop (List.mem_of_mem_take hd))
        rfl
      rw [this]
      refine ⟨fun _ => ?_, fun h => absurd (.inl rfl) h⟩
      show some (c + 0) = some c
      rw [Int.add_zero]
    · have : finesL (ws.map fun w => (⟨w, c, 0, famF way⟩ : Day)) k b = none := by
        unfold finesL
        refine sumO_nones ?_
        refine List.mem_map.mpr ⟨⟨ws[k], c, 0, famF way⟩, ?_, if_neg h0⟩
        refine List.mem_iff_getElem?.mpr ⟨0, ?_⟩
        rw [List.getElem?_take_of_lt (by omega), List.getElem?_drop, Nat.add_zero, List.getElem?_map, List.getElem?_eq_getElem hk]
        rfl
      rw [this]
      refine ⟨fun h => ?_, fun _ => rfl⟩
      unfold May at h
      omega
  · rw [if_neg hkb]
    by_cases h2 : way = 2
    · subst h2
      show (May 2 b k → (if (0 : Int) < (k : Int) - (b : Int) then none else some (c + 0)) = some c) ∧ (¬ May 2 b k → (if (0 : Int) < (k : Int) - (b : Int) then none else some (c + 0)) = none)
      unfold May
      by_cases e : b = k
      · rw [if_neg (by omega), Int.add_zero]
        exact ⟨fun _ => rfl, fun h => absurd (.inr (.inr ⟨rfl, e⟩)) h⟩
      · rw [if_pos (by omega)]
        exact ⟨fun h => by omega, fun _ => rfl⟩
    · have : famL way = none := if_neg h2
      rw [this]
      simp only
      rw [Int.add_zero]
      refine ⟨fun _ => rfl, fun h => ?_⟩
      unfold May at h
      omega
theorem fam_may {ws : List Int} {c : Int} {way b k : Nat} {z : Int} (hway : way < 3) (hb : b < ws.length) (hk : k < ws.length) (h : loafP (famG ws c (famF way) (famL way)) b k = some z) : z = c ∧ May way b k := by
  by_cases m : May way b k
  · rw [(fam_loaf ws c hway hb hk).1 m] at h
    exact ⟨(Option.some.inj h).symm, m⟩
  · rw [(fam_loaf ws c hway hb hk).2 m] at h
    cases h
/-- what the law's own row holds at m -/
structure KRow (way : Nat) (ws ls : List Int) (c : Int) (m : Nat) (v : Int) : Prop where
  none : way < 2 → (∀ k, k < m → rowF ws k = 0) → v = 0
  some : way < 2 → ∀ k0, k0 < m → rowF ws k0 ≠ 0 → (∀ k, k < k0 → rowF ws k = 0) → ∃ b, b < m ∧ (way = 1 → b ≤ k0) ∧ (∀ b', b' < m → (way = 1 → b' ≤ k0) → rowF ls b ≤ rowF ls b') ∧ v = c * sumN (rowF ws) m + rowF ls b
  each : way = 2 → v = c * sumN (rowF ws) m + sumN (fun k => if rowF ws k = 0 then 0 else rowF ls k) m
theorem known_row {ws ls : List Int} {c : Int} {way m : Nat} {v : Int} {row : Nat → Int} (hway : way < 3) (hR : IsRow (famG ws c (famF way) (famL way)) (rowF ls) row ws.length) (hl : ∀ b, 0 ≤ rowF ls b) (N : NonNegW (famG ws c (famF way) (famL way)).days) (hm : m ≤ ws.length) (h : KRow way ws ls c m v) : row m = v := by
  have eN := fam_wantN ws c (famF way) (famL way)
  have eW : wantN (famG ws c (famF way) (famL way)) = rowF ws := funext eN
  have hlen := fam_len ws c (famF way) (famL way)
  by_cases h2 : way = 2
  · rw [h.each h2]
    rw [known_each (c := c) hR (by omega) hl (fun b k z hb hk hz => ?_) (fun k hk => ?_) m hm]
    · rw [eW]
      congr 1
      exact sumN_cong m fun k _ => by unfold litW; rw [eN]
    · obtain ⟨e1, e2⟩ := fam_may hway hb hk hz
      refine ⟨e1, ?_⟩
      unfold May at e2
      omega
    · exact (fam_loaf ws c hway hk hk).1 (by unfold May; omega)
  · by_cases hz : ∀ k, k < m → rowF ws k = 0
    · rw [h.none (by omega) hz]
      exact known_zero hR (by omega) hl N hm fun k hk => by rw [eN]; exact hz k hk
    · have hex : ∃ k, k < m ∧ rowF ws k ≠ 0 := by
        apply Classical.byContradiction
        intro hh
        exact hz fun k hk => Classical.byContradiction fun e => hh ⟨k, hk, e⟩
      obtain ⟨k0, ⟨hk0, hw0⟩, hfirst⟩ := exists_least hex
      have hfirst : ∀ k, k < k0 → rowF ws k = 0 := fun k hk => Classical.byContradiction fun e => hfirst k hk ⟨by omega, e⟩
      obtain ⟨b, hb, hb1, hmin, rfl⟩ := h.some (by omega) k0 hk0 hw0 hfirst
      rw [known_one (c := c) hR (by omega) hl hm (fun b k z hb hk hz => (fam_may hway (by omega) (by omega) hz).1) hk0 (by rw [eN]; exact hw0) hb (fun k hk hw => ?_) (fun b' z hb' hz => ?_), eW]
      · refine (fam_loaf ws c hway (by omega) (by omega)).1 ?_
        unfold May
        by_cases h1 : way = 1
        · rw [eN] at hw
          have : k0 ≤ k := by
            by_cases z : k < k0
            · exact absurd (hfirst k z) hw
            · omega
          have := hb1 h1
          omega
        · omega
      · have := (fam_may hway (by omega) (by omega) hz).2
        refine hmin b' hb' fun h1 => ?_
        unfold May at this
        omega
theorem known_plan {ws ls : List Int} {c : Int} {way : Nat} {v : Int} {row : Nat → Int} {es : List (Nat × Nat)} (hway : way < 2) (hR : IsRow (famG ws c (famF way) (famL way)) (rowF ls) row ws.length) (hl : ∀ b, 0 ≤ rowF ls b) (hpos : ∀ b, b < ws.length → 0 < rowF ls b) (N : NonNegW (famG ws c (famF way) (famL way)).days)
    (h : KRow way ws ls c ws.length v) (hC : CheapI (famG ws c (famF way) (famL way)) (rowF ls) row ws.length 0 es) (hex : ∃ k, k < ws.length ∧ rowF ws k ≠ 0) : ∃ b, b < ws.length ∧ ∀ d, (∃ e ∈ es, e.1 = d) ↔ d = b := by
  have eN := fam_wantN ws c (famF way) (famL way)
  have eW : wantN (famG ws c (famF way) (famL way)) = rowF ws := funext eN
  have hlen := fam_len ws c (famF way) (famL way)
  have hv := known_row (by omega) hR hl N (Nat.le_refl _) h
  obtain ⟨k0, ⟨hk0, hw0⟩, hfirst⟩ := exists_least hex
  have hfirst : ∀ k, k < k0 → rowF ws k = 0 := fun k hk => Classical.byContradiction fun e => hfirst k hk ⟨by omega, e⟩
  obtain ⟨b, hb, hb1, hmin, rfl⟩ := h.some (by omega) k0 hk0 hw0 hfirst
  refine plan_one (b0 := b) (c := c) hC hR (by omega) hl hpos N (fun l e => ?_) (fun b k z hb hk hz => (fam_may (by omega) (by omega) (by omega) hz).1) hk0 (by rw [eN]; exact hw0) (fun b' z hb' hz => ?_) (by rw [eW]; exact hv)
  · have : (famG ws c (famF way) (famL way)).life = none := if_neg (by omega)
    rw [this] at e
    cases e
  · have := (fam_may (by omega) (by omega) (by omega) hz).2
    refine hmin b' hb' fun h1 => ?_
    unfold May at this
    omega
/-- the wanted days among the first ones -/
def wantK (ws : List Int) (i : Nat) : List Nat := (List.range i).filter fun k => decide (0 < rowF ws k)
def natK (n : Nat) : V := .int (n : Int)
theorem wantK_succ (ws : List Int) (i : Nat) : wantK ws (i + 1) = wantK ws i ++ (if 0 < rowF ws i then [i] else []) := by
  unfold wantK
  rw [List.range_succ, List.filter_append]
  congr 1
  by_cases e : 0 < rowF ws i
  · rw [if_pos e]
    exact List.filter_cons_of_pos (decide_eq_true e)
  · rw [if_neg e]
    exact List.filter_cons_of_neg (by simpa using e)
theorem wantK_len (ws : List Int) (i : Nat) : (wantK ws i).length ≤ i := by
  unfold wantK
  refine Nat.le_trans (List.length_filter_le _ _) ?_
  rw [List.length_range]
  exact Nat.le_refl _
theorem mem_wantK {ws : List Int} {i k : Nat} : k ∈ wantK ws i ↔ k < i ∧ 0 < rowF ws k := by
  unfold wantK
  rw [List.mem_filter, List.mem_range, decide_eq_true_eq]
theorem wantK_pw (ws : List Int) (i : Nat) : (wantK ws i).Pairwise (· < ·) := List.pairwise_lt_range.sublist List.filter_sublist
theorem wantK_first {ws : List Int} {i k : Nat} {r : List Nat} (h : wantK ws i = k :: r) : k < i ∧ 0 < rowF ws k ∧ ∀ j, j < k → ¬ 0 < rowF ws j := by
  have h1 := mem_wantK.mp (show k ∈ wantK ws i by rw [h]; exact List.mem_cons_self)
  refine ⟨h1.1, h1.2, fun j hj hw => ?_⟩
  have h2 := mem_wantK.mpr ⟨show j < i by omega, hw⟩
  have h3 := wantK_pw ws i
  rw [h] at h2 h3
  rcases List.mem_cons.mp h2 with e | e
  · omega
  · have := (List.pairwise_cons.mp h3).1 j e
    omega
theorem sum_take_rowF (ns : List Int) {k : Nat} (h : k ≤ ns.length) : (ns.take k).sum = sumN (rowF ns) k := by
  rw [sum_rowF, List.length_take, Nat.min_eq_left h]
  exact sumN_cong k fun i hi => rowF_take hi
theorem wantK_sum (ws : List Int) (L : Nat → Int) (hw : ∀ k, 0 ≤ rowF ws k) (i : Nat) : ((wantK ws i).map L).sum = sumN (fun k => if rowF ws k = 0 then 0 else L k) i := by
  have e : ((wantK ws i).map L).sum = ((wantK ws i).map fun k => if rowF ws k = 0 then 0 else L k).sum := by
    congr 1
    refine List.map_congr_left fun k hk => ?_
    have := (mem_wantK.mp hk).2
    rw [if_neg (by omega)]
  rw [e]
  refine sum_filter i fun k _ hk => ?_
  have := of_decide_eq_false hk
  have := hw k
  rw [if_pos (by omega)]
theorem ints_eq {as bs : List Int} (h : as.length = bs.length) (he : ∀ k, k < as.length → rowF as k = rowF bs k) : as = bs := by
  apply List.ext_getElem h
  intro i h1 h2
  have := he i h1
  unfold rowF at this
  rw [List.getD_eq_getElem?_getD, List.getD_eq_getElem?_getD, List.getElem?_eq_getElem h1, List.getElem?_eq_getElem h2] at this
  exact this
theorem rising_eq {as bs : List Int} (h1 : as.Pairwise (· < ·)) (h2 : bs.Pairwise (· < ·)) (h : ∀ k, k ∈ as ↔ k ∈ bs) : as = bs := by
  have n1 : as.Nodup := by rw [List.nodup_iff_pairwise_ne]; exact h1.imp fun h => by omega
  have n2 : bs.Nodup := by rw [List.nodup_iff_pairwise_ne]; exact h2.imp fun h => by omega
  exact List.Perm.eq_of_pairwise (fun a b _ _ k1 k2 => by omega) h1 h2 ((List.perm_ext_iff_of_nodup n1 n2).mpr h)
/-- != of two lists of the same ints -/
theorem ne_intsK {K : PySem.W.Frag} {H : Hp} {a b : Addr} {ns : List Int} {Q : VK} (h1 : SqL K H a (ns.map V.int)) (h2 : SqL K H b (ns.map V.int)) (q : Q (.bl false) H) : rNeD K (.ref a) (.ref b) H Q := by
  refine ⟨_, _, .lst h1 (dp_ints ns), .lst h2 (dp_ints ns), shaped_ints ns, shaped_ints ns, ?_⟩
  rw [SeqAt.eqv_refl _ (by simp only [PyData.canLay0, lay_ints])]
  exact q
end Bk

namespace Bk
open PySem PySem.Spec PyProof.Rows L2
/-! ### {a for a, b, c, d in xs}: the first parts of a list's tuples, whole numbers, as a set -/
theorem ns_at {h h' : Heap} {C : Addr} {m : Str → Option Value} (n : h.Ns C m) (k : ∀ o, h.get? C = some o → h'.get? C = some o) : h'.Ns C m := by
  obtain ⟨o, es, ep, ho, r⟩ := n
  exact ⟨o, es, ep, k o ho, r⟩
section
variable {X : Cx}
/-- what stands while the block runs -/
structure Runs (X : Cx) (s1 : Shared) (D C : Addr) (zs : List (Addr × Int)) (i : Nat) (t : Shared) : Prop where
  only : ∃ h tk, t = { s1 with heap := h, toks := tk }
  old : ∀ b o, s1.heap.get? b = some o → t.heap.get? b = some o
  set : ∃ n, n ≤ i ∧ SetR X.w t.heap D (fun j => decide (j ∈ (zs.take i).map (·.2))) n
  names : ∃ m, t.heap.Ns C m
theorem Runs.other {s1 t : Shared} {D C It : Addr} {zs : List (Addr × Int)} {i : Nat} (g : Runs X s1 D C zs i t) (hI : s1.heap.objs.size ≤ It) (hD : D ≠ It) (hC : C ≠ It) {h' : Heap} {tk : Nat} (k : ∀ b o, b ≠ It → t.heap.get? b = some o → h'.get? b = some o) : Runs X s1 D C zs i { t with heap := h', toks := tk } := by
  obtain ⟨h, tk0, e⟩ := g.only
  obtain ⟨n, hn, hs⟩ := g.set
  obtain ⟨m, hm⟩ := g.names
  subst e
  refine ⟨⟨h', tk, rfl⟩, fun b o q => k b o (fun z => ?_) (g.old b o q), ⟨n, hn, hs.at fun o q => k D o hD q⟩, ⟨m, ns_at hm fun o q => k C o hC q⟩⟩
  exact Nat.lt_irrefl _ (Nat.lt_of_lt_of_le (z ▸ Heap.lt_size q) hI)
def tScT (K : PySem.W.Frag) (w : World) (te : TE) : TE := fun σ H Q => te σ H fun x H1 => ∃ (p : Addr) (zs : List (Addr × Int)), x = .ref p ∧ SqL K H1 p (zs.map fun z => V.ref z.1) ∧ (∀ z ∈ zs, ∃ b c d, SqT K H1 z.1 [.int z.2, b, c, d]) ∧ zs.length < 60 ∧ ∀ D n, H1 D = none → n ≤ zs.length → Q (.ref D) (upd H1 D (SetO w D (fun j => decide (j ∈ zs.map (·.2))) n))
theorem pe_scT {xa xb xc xd : Str} {pa pb pc pd pel tp pos : Pos} {kk : Nat} {iter : Expr} {scope : Scope} {te : TE} (hc : X.calm = true) (he : PE X iter te) (hfree : scope.names.all (fun y => y.2 == .local) = true) (hkind : scope.kind = .function)
    (la : scope.names.lookup xa = some .local) (lb : scope.names.lookup xb = some .local) (lc : scope.names.lookup xc = some .local) (ld : scope.names.lookup xd = some .local) (hnames : ∀ y ∈ scope.names, y.2 = .local → scope.names.lookup y.1 = some .local)
    (hne : xa ≠ xb ∧ xa ≠ xc ∧ xa ≠ xd) (hdb : (xa == ("__debug__" : Str)) = false := by decide) (hs : ∀ x, foldedSetIterable iter X.env x = pure x := by intro _; rfl) :
    PE X (.SetComp (.Name xa pel) [⟨.Tuple [.Name xa pa, .Name xb pb, .Name xc pc, .Name xd pd] kk tp, iter, [], 0⟩] scope pos) (tScT X.K X.w te) := by
  have hlocal : ∀ y ∈ scope.names, y.2 = .local := fun y hy => by
    have := List.all_eq_true.mp hfree y hy
    simpa using this
  have hclos := closure_ok (scope := scope) (env := X.env) fun y hy z => by rw [hlocal y hy] at z; cases z
  generalize cloFrom X.env.cells scope.names [] = cl at hclos
  have kin : ∀ {C : Addr} {x : Str}, scope.names.lookup x = some .local → (compEnvC scope cl C X.env).kindOf x = some .local := fun hx => lookup_relabel_local hx
  refine ⟨fun pins s σ H Q I h => ?_⟩
  have hh : X.A.handled = none := I.ok.hd hc
  refine SetComp_goes hclos (fun y hy z => by rw [hlocal y hy] at z; cases z) hkind hnames (thn (he.run pins s σ H _ I h) fun v s1 hv => ?_) hs
  obtain ⟨x, H1, I1, r1, p, zs, ex, hl, hz, hn, q⟩ := hv
  subst ex
  obtain rfl : v = Value.ref p := r1
  obtain ⟨its, rel, hli, hsz⟩ := I1.list hl
  have hlen := rel.length
  rw [List.length_map] at hlen
  refine wpAny_pyIter_list hli.isList ?_
  generalize hIt : s1.heap.objs.size = It
  have hpI : p ≠ It := fun z => by
    obtain ⟨o, ho, _⟩ := hli.isList
    exact Nat.lt_irrefl _ (hIt ▸ z ▸ Heap.lt_size ho)
  have keep1 : ∀ b o, s1.heap.get? b = some o → (s1.heap.push { cls := .type "list_iterator", data := .fields #[.ref p, .int 0 0] }).get? b = some o := fun b o e => Heap.get?_push_of_some _ e
  refine ⟨It, [It, p], [It], its.toArray.size, _, _, rfl, Goes.list hh It p hpI its.toArray, ⟨?_, ?_⟩, fun D C s3 hb hD => ?_⟩
  · rw [← hIt]
    exact ⟨_, Heap.get?_push_size _ rfl, rfl, rfl⟩
  · obtain ⟨o, ho, r⟩ := hli.isList
    exact ⟨o, keep1 _ _ ho, r⟩
  obtain ⟨h3, tk3, e3⟩ := hb.only
  subst e3
  have sz2 : (s1.heap.push { cls := .type "list_iterator", data := .fields #[.ref p, .int 0 0] }).objs.size = It + 1 := by rw [Heap.size_push, hIt]
  have hDn : It + 1 ≤ D := by rw [← sz2]; exact hb.newD
  have hCn : It + 1 ≤ C := by rw [← sz2]; exact hb.newC
  have nDI : D ≠ It := fun z => by rw [z] at hDn; exact Nat.lt_irrefl _ hDn
  have nCI : C ≠ It := fun z => by rw [z] at hCn; exact Nat.lt_irrefl _ hCn
  have under : ∀ {b o}, s1.heap.get? b = some o → b ≠ D ∧ b ≠ C := fun {b o} e => by
    have hlt : b < It := hIt ▸ Heap.lt_size e
    exact ⟨fun z => Nat.lt_irrefl _ (Nat.lt_of_lt_of_le (z ▸ hlt) (Nat.le_of_succ_le hDn)), fun z => Nat.lt_irrefl _ (Nat.lt_of_lt_of_le (z ▸ hlt) (Nat.le_of_succ_le hCn))⟩
  refine ⟨Runs X s1 D C zs, ⟨⟨h3, tk3, rfl⟩, fun b o e => hb.old b o (keep1 b o e), ⟨0, Nat.le_refl _, ?_⟩, ⟨_, hb.names⟩⟩, fun i t h' tk g k _ => g.other (Nat.le_of_eq hIt) nDI nCI fun b o hbI e => k b o (by simpa using hbI) e, fun i v t hi hY hSt g => ?_, fun t g => ?_⟩
  · rw [show (fun j : Int => decide (j ∈ (zs.take 0).map (·.2))) = fun _ => false by funext j; simp]
    obtain ⟨o, es, ep, tt, ho, r⟩ := setR_fresh (h := s1.heap) X.w
    rw [Heap.get?_push_size _ rfl] at ho
    cases ho
    exact ⟨_, es, ep, tt, hD, r⟩
  · obtain ⟨ht0, tk0, e0⟩ := g.only
    subst e0
    have hY : its[i]? = some v := by simpa using hY
    have hiz : i < zs.length := by
      have h1 := (List.getElem?_eq_some_iff.mp hY).1
      omega
    have hzi : zs[i]? = some zs[i] := List.getElem?_eq_getElem hiz
    have hzm := List.getElem_mem hiz
    generalize zs[i] = z at hzi hzm
    obtain ⟨u, hu, ru⟩ := rel.get (i := i) (x := V.ref z.1) (by rw [List.getElem?_map, hzi]; rfl)
    rw [hY] at hu
    cases hu
    obtain rfl : v = Value.ref z.1 := ru
    obtain ⟨b, c, d, hq⟩ := hz z hzm
    have It0 : Inv X pins σ H1 { s1 with heap := ht0, toks := tk0 } := I1.kept (t' := tk0) g.old
    obtain ⟨us, rel4, ht4, _⟩ := It0.tuple hq
    obtain ⟨v1, v2, v3, v4, rfl, rv⟩ : ∃ v1 v2 v3 v4, us = [v1, v2, v3, v4] ∧ RelV (.int z.2) v1 := by
      cases rel4 with
      | cons r1 t1 => cases t1 with
      | cons r2 t2 => cases t2 with
      | cons r3 t3 => cases t3 with
      | cons r4 t4 =>
      cases t4
      exact ⟨_, _, _, _, rfl, r1⟩
    obtain ⟨tkv, rfl⟩ := rv
    obtain ⟨n0, hn0, hset⟩ := g.set
    obtain ⟨m0, hns⟩ := g.names
    have hp0 : ((compEnvC scope cl C X.env).scope.kind == .class || ((compEnvC scope cl C X.env).scope.kind == .module && (compEnvC scope cl C X.env).locals != (compEnvC scope cl C X.env).globals)) = false := by
      show (scope.kind == .class || (scope.kind == .module && _)) = false
      rw [hkind]
      rfl
    refine assign_Tuple_tuple hh ht4 rfl rfl fun h5 ext => ?_
    have k5 : ∀ b o, ht0.get? b = some o → h5.get? b = some o := fun b o e => ext b o (fun zz => Nat.lt_irrefl _ (zz ▸ Heap.lt_size e)) e
    refine wpAny_bind (wpAny_holding (wpAny_assign_Name (wpAny_storeName_local (kin la) (ns_at hns fun o e => k5 C o e) (fun h6 n6 b6 => ?_) hp0)))
    refine wpAny_bind (wpAny_holding (wpAny_assign_Name (wpAny_storeName_local (kin lb) n6 (fun h7 n7 b7 => ?_) hp0)))
    refine wpAny_bind (wpAny_holding (wpAny_assign_Name (wpAny_storeName_local (kin lc) n7 (fun h8 n8 b8 => ?_) hp0)))
    refine wpAny_bind (wpAny_holding (wpAny_assign_Name (wpAny_storeName_local (kin ld) n8 (fun h9 n9 b9 => ?_) hp0)))
    refine wpAny_pure ?_
    have k9 : ∀ b o, b ≠ C → ht0.get? b = some o → h9.get? b = some o := fun b o hbC e => by
      rw [b9.2 b hbC, b8.2 b hbC, b7.2 b hbC, b6.2 b hbC]
      exact k5 b o e
    show wpAny _ _ (pure true) _ _ _
    refine wpAny_pure ?_
    rw [if_pos rfl]
    refine wpAny_Name (wpAny_loadName_local (v := Value.int z.2 tkv) hkind (kin la) n9 ?_ ?_) hdb
    · show (if xa = xd then some v4 else if xa = xc then some v3 else if xa = xb then some v2 else if xa = xa then some (Value.int z.2 tkv) else m0 xa) = _
      rw [if_neg hne.2.2, if_neg hne.2.1, if_neg hne.1, if_pos rfl]
    have nDC : D ≠ C := hb.ne
    refine setR_add (hset.at fun o e => k9 D o nDC e) ?_ fun hA bA nA => ?_
    · have : n0 + 1 < 64 := by omega
      exact Nat.lt_of_lt_of_le this (by decide)
    have kA : ∀ b o, b ≠ C → b ≠ D → ht0.get? b = some o → hA.get? b = some o := fun b o h1 h2 e => by rw [bA.2 b h2]; exact k9 b o h1 e
    refine ⟨⟨⟨hA, _, rfl⟩, fun b o e => kA b o (under e).2 (under e).1 (g.old b o e), ⟨if decide (z.2 ∈ (zs.take i).map (·.2)) = true then n0 else n0 + 1, ?_, ?_⟩, ⟨_, ns_at n9 fun o e => by rw [bA.2 C (Ne.symm nDC)]; exact e⟩⟩, ?_⟩
    · split <;> omega
    · have eS : (fun j => decide (j ∈ (zs.take i).map (·.2)) || decide (j = z.2)) = fun j => decide (j ∈ (zs.take (i + 1)).map (·.2)) := by
        funext j
        rw [List.take_add_one, hzi, List.map_append, Bool.eq_iff_iff, Bool.or_eq_true, decide_eq_true_eq, decide_eq_true_eq, decide_eq_true_eq, List.mem_append]
        simp
      rw [← eS]
      exact nA
    · refine (Goes.list (prog := X.prog) (w := X.w) (target := .Tuple [.Name xa pa, .Name xb pb, .Name xc pc, .Name xd pd] kk tp) hh It p hpI its.toArray).frame _ _ _ hSt fun b hbm o e => ?_
      rcases List.mem_cons.mp hbm with rfl | hbm
      · exact kA _ o (Ne.symm nCI) (Ne.symm nDI) e
      · rw [List.mem_singleton.mp hbm] at e ⊢
        obtain ⟨op, hop, _⟩ := hli.isList
        exact kA _ o (under hop).2 (under hop).1 e
  · obtain ⟨ht0, tk0, e0⟩ := g.only
    obtain ⟨n0, hn0, hset⟩ := g.set
    obtain ⟨m0, hns⟩ := g.names
    subst e0
    have nDC : D ≠ C := hb.ne
    have hil : its.toArray.size = zs.length := by rw [List.size_toArray]; omega
    rw [hil] at hn0 hset
    rw [List.take_length] at hset
    refine ⟨m0, hns, fun h' sb => ?_⟩
    have gone : s1.heap.get? D = none := by
      cases e : s1.heap.get? D with
      | none => rfl
      | some o => exact absurd rfl (under e).1
    have nH : H1 D = none := I1.hok.gone gone
    have hset' : SetR X.w h' D (fun j => decide (j ∈ zs.map (·.2))) n0 := hset.at fun o e => by rw [sb.2 D nDC]; exact e
    exact ⟨.ref D, _, I1.laidN (h' := h') (t' := tk0) (fun b o e => by rw [sb.2 b (under e).2]; exact g.old b o e) gone nH (setO_new hset'), rfl, q D n0 nH hn0⟩
end
end Bk

namespace Bk
open PySem PySem.Spec PyProof.Rows L2
/-! ### all prices times a number, a number more for each loaf -/
def mulD (t m : Int) (d : Day) : Day := ⟨d.want, d.loaf * t + m, d.keep * t, d.fine.map (· * t)⟩
def mulG (t m : Int) (g : Good) : Good := ⟨g.days.map (mulD t m), g.life⟩
theorem sum_tms (t : Int) : ∀ l : List Int, (l.map (· * t)).sum = l.sum * t
  | [] => by simp
  | x :: r => by rw [List.map_cons, List.sum_cons, List.sum_cons, sum_tms t r, Int.add_mul]
theorem sumO_mul (t : Int) : ∀ l : List (Option Int), sumO (l.map fun o => o.map (· * t)) = (sumO l).map (· * t)
  | [] => by simp [sumO]
  | none :: r => rfl
  | some x :: r => by
    show (sumO (r.map fun o => o.map (· * t))).map (x * t + ·) = ((sumO r).map (x + ·)).map (· * t)
    rw [sumO_mul t r]
    cases sumO r with
    | none => rfl
    | some y => show some (x * t + y * t) = some ((x + y) * t); rw [Int.add_mul]
theorem keeps_mul (t m : Int) (ds : List Day) (i j : Nat) : keepsL (ds.map (mulD t m)) i j = keepsL ds i j * t := by
  unfold keepsL
  rw [← List.map_drop, ← List.map_take, List.map_map, ← sum_tms, List.map_map]
  rfl
theorem fines_mul (t m : Int) (ds : List Day) (i j : Nat) : finesL (ds.map (mulD t m)) i j = (finesL ds i j).map (· * t) := by
  unfold finesL
  rw [← List.map_drop, ← List.map_take, List.map_map, ← sumO_mul, List.map_map]
  rfl
theorem loaf_mul (t m : Int) (g : Good) (j k : Nat) : loafP (mulG t m g) j k = (loafP g j k).map fun z => z * t + m := by
  unfold loafP
  show (match (g.days.map (mulD t m))[j]? with | none => none | some d => if k < j then (finesL (g.days.map (mulD t m)) k j).map (d.loaf + ·) else match g.life with | none => some (d.loaf + keepsL (g.days.map (mulD t m)) j k) | some l => if l < (k : Int) - (j : Int) then none else some (d.loaf + keepsL (g.days.map (mulD t m)) j k)) = _
  rw [List.getElem?_map, fines_mul, keeps_mul]
  cases g.days[j]? with
  | none => rfl
  | some d =>
    show (if k < j then ((finesL g.days k j).map (· * t)).map ((d.loaf * t + m) + ·) else match g.life with | none => some (d.loaf * t + m + keepsL g.days j k * t) | some l => if l < (k : Int) - (j : Int) then none else some (d.loaf * t + m + keepsL g.days j k * t)) = _
    have e : ∀ y : Int, d.loaf * t + m + y * t = (d.loaf + y) * t + m := fun y => by rw [Int.add_mul]; omega
    rw [e]
    dsimp only
    by_cases hkj : k < j
    · rw [if_pos hkj, if_pos hkj]
      cases finesL g.days k j with
      | none => rfl
      | some y => exact congrArg some (e y)
    · rw [if_neg hkj, if_neg hkj]
      cases g.life with
      | none => rfl
      | some l =>
        show (if _ then none else _) = Option.map _ (if _ then none else _)
        by_cases hl : l < (k : Int) - (j : Int)
        · rw [if_pos hl, if_pos hl]; rfl
        · rw [if_neg hl, if_neg hl]; rfl
theorem wantN_mul (t m : Int) (g : Good) (k : Nat) : wantN (mulG t m g) k = wantN g k := by
  unfold wantN mulG
  show (match (g.days.map (mulD t m))[k]? with | none => (0 : Int) | some d => d.want) = _
  rw [List.getElem?_map]
  cases g.days[k]? <;> rfl
theorem want_mul (t m : Int) (g : Good) (j k : Nat) : wantP (mulG t m g) j k = (wantP g j k).map fun z => z * t + m * wantN g k := by
  unfold wantP
  show (match (g.days.map (mulD t m))[k]? with | none => none | some d => if d.want = 0 then some 0 else (loafP (mulG t m g) j k).map (d.want * ·)) = _
  rw [List.getElem?_map, loaf_mul]
  cases hd : g.days[k]? with
  | none => rfl
  | some d =>
    have hw : wantN g k = d.want := wantN_at hd
    show (if d.want = 0 then some 0 else ((loafP g j k).map fun z => z * t + m).map (d.want * ·)) = Option.map _ (if d.want = 0 then some 0 else (loafP g j k).map (d.want * ·))
    rw [hw]
    by_cases h0 : d.want = 0
    · rw [if_pos h0, if_pos h0, h0]
      show some (0 : Int) = some (0 * t + m * 0)
      rw [Int.zero_mul, Int.mul_zero, Int.add_zero]
    · rw [if_neg h0, if_neg h0]
      cases loafP g j k with
      | none => rfl
      | some z =>
        show some (d.want * (z * t + m)) = some (d.want * z * t + m * d.want)
        rw [Int.mul_add, Int.mul_assoc, Int.mul_comm m]
def wsum (g : Good) (f n : Nat) : Int := sumN (fun i => wantN g (f + i)) n
theorem seg_mul (t m : Int) (g : Good) (b f : Nat) : ∀ n, segP (wantP (mulG t m g) b) f n = (segP (wantP g b) f n).map fun s => s * t + m * wsum g f n
  | 0 => by
    rw [segP_zero, segP_zero]
    show some (0 : Int) = some (0 * t + m * 0)
    rw [Int.zero_mul, Int.mul_zero, Int.add_zero]
  | n + 1 => by
    have ih := seg_mul t m g b f n
    have hw := want_mul t m g b (f + n)
    cases h1 : segP (wantP g b) f n with
    | none =>
      rw [h1] at ih
      have e1 : segP (wantP g b) f (n + 1) = none := by
        cases h : segP (wantP g b) f (n + 1) with
        | none => rfl
        | some s => obtain ⟨x, y, hx, _⟩ := segP_succ h; rw [h1] at hx; cases hx
      have e2 : segP (wantP (mulG t m g) b) f (n + 1) = none := by
        cases h : segP (wantP (mulG t m g) b) f (n + 1) with
        | none => rfl
        | some s => obtain ⟨x, y, hx, _⟩ := segP_succ h; rw [ih] at hx; cases hx
      rw [e1, e2]; rfl
    | some x =>
      rw [h1] at ih
      cases h2 : wantP g b (f + n) with
      | none =>
        rw [h2] at hw
        have e1 : segP (wantP g b) f (n + 1) = none := by
          cases h : segP (wantP g b) f (n + 1) with
          | none => rfl
          | some s => obtain ⟨_, y, _, hy, _⟩ := segP_succ h; rw [h2] at hy; cases hy
        have e2 : segP (wantP (mulG t m g) b) f (n + 1) = none := by
          cases h : segP (wantP (mulG t m g) b) f (n + 1) with
          | none => rfl
          | some s => obtain ⟨_, y, _, hy, _⟩ := segP_succ h; rw [hw] at hy; cases hy
        rw [e1, e2]; rfl
      | some y =>
        rw [h2] at hw
        rw [segP_add h1 h2, segP_add ih hw]
        show some (x * t + m * wsum g f n + (y * t + m * wantN g (f + n))) = some ((x + y) * t + m * (wsum g f n + wantN g (f + n)))
        rw [Int.add_mul, Int.mul_add]
        exact congrArg some (by omega)
theorem wsum_join (g : Good) (f n : Nat) : wsum g 0 f + wsum g f n = wsum g 0 (f + n) := by
  unfold wsum
  have := sumN_split (fun i => wantN g (0 + i)) f n
  rw [this]
  congr 1
  refine sumN_congr n fun k _ => ?_
  rw [Nat.zero_add]
/-- the row of the dearer bakery -/
theorem row_mul {t m : Int} {g : Good} {lights row : Nat → Int} {n : Nat} (ht : 0 ≤ t) (hR : IsRow g lights row n) : IsRow (mulG t m g) (fun b => lights b * t) (fun j => row j * t + m * wsum g 0 j) n := by
  have val : ∀ (f b : Nat) (s : Int) (k : Nat), f ≤ k → (row f * t + m * wsum g 0 f) + lights b * t + (s * t + m * wsum g f (k + 1 - f)) = (row f + lights b + s) * t + m * wsum g 0 (k + 1) := fun f b s k hf => by
    have := wsum_join g f (k + 1 - f)
    rw [show f + (k + 1 - f) = k + 1 by omega] at this
    rw [← this, Int.mul_add, Int.add_mul, Int.add_mul]
    omega
  have last : ∀ k, wantN g k = 0 → wsum g 0 (k + 1) = wsum g 0 k := fun k h => by
    show wsum g 0 k + wantN g (0 + k) = _
    rw [Nat.zero_add, h, Int.add_zero]
  refine ⟨?_, fun k hk => ?_, fun k hk v hv => ?_⟩
  · show row 0 * t + m * 0 = 0
    rw [hR.zero, Int.zero_mul, Int.mul_zero, Int.add_zero]
  · rcases hR.some k hk with ⟨b, f, s, hb, hf, hs, hv⟩ | ⟨⟨d, hd, hw⟩, hv⟩
    · refine .inl ⟨b, f, _, hb, hf, by rw [seg_mul, hs]; rfl, ?_⟩
      show row (k + 1) * t + m * wsum g 0 (k + 1) = _
      rw [val f b s k hf, ← hv]
    · refine .inr ⟨⟨mulD t m d, by show (g.days.map (mulD t m))[k]? = _; rw [List.getElem?_map, hd]; rfl, hw⟩, ?_⟩
      show row (k + 1) * t + m * wsum g 0 (k + 1) = row k * t + m * wsum g 0 k
      rw [last k ((wantN_at hd).trans hw), hv]
  · rcases hv with ⟨b, f, s, hb, hf, hs, hv⟩ | ⟨⟨d, hd, hw⟩, hv⟩
    · rw [seg_mul] at hs
      obtain ⟨s0, hs0, e⟩ := Option.map_eq_some_iff.mp hs
      subst e
      have hle := hR.least k hk _ (.inl ⟨b, f, s0, hb, hf, hs0, rfl⟩)
      show row (k + 1) * t + m * wsum g 0 (k + 1) ≤ v
      rw [hv, val f b s0 k hf]
      have := Int.mul_le_mul_of_nonneg_right hle ht
      omega
    · have hd : (g.days.map (mulD t m))[k]? = some d := hd
      rw [List.getElem?_map] at hd
      obtain ⟨d0, hd0, e⟩ := Option.map_eq_some_iff.mp hd
      subst e
      have hw0 : d0.want = 0 := hw
      have hle := hR.least k hk _ (.inr ⟨⟨d0, hd0, hw0⟩, rfl⟩)
      show row (k + 1) * t + m * wsum g 0 (k + 1) ≤ v
      rw [hv, last k ((wantN_at hd0).trans hw0)]
      have := Int.mul_le_mul_of_nonneg_right hle ht
      show row (k + 1) * t + m * wsum g 0 k ≤ row k * t + m * wsum g 0 k
      omega
theorem sumN_tms (t : Int) (f : Nat → Int) : ∀ n, sumN (fun i => f i * t) n = sumN f n * t
  | 0 => (Int.zero_mul t).symm
  | n + 1 => by
    show sumN (fun i => f i * t) n + f n * t = (sumN f n + f n) * t
    rw [sumN_tms t f n, Int.add_mul]
theorem lets_mul {t : Int} {g : Good} {lights pr : Nat → Int} {n : Nat} (ht : 0 ≤ t) (h : Lets g lights pr n) : Lets (mulG t 0 g) (fun b => lights b * t) (fun k => pr k * t) n := fun b f k s hb hf hs => by
  rw [seg_mul] at hs
  obtain ⟨s0, hs0, e⟩ := Option.map_eq_some_iff.mp hs
  have e : s0 * t + 0 * wsum g f k = s := e
  rw [Int.zero_mul, Int.add_zero] at e
  have := Int.mul_le_mul_of_nonneg_right (h b f k s0 hb hf hs0) ht
  rw [Int.add_mul] at this
  show sumN (fun i => pr (f + i) * t) k ≤ lights b * t + s
  rw [sumN_tms t (fun i => pr (f + i)) k, ← e]
  exact this
theorem steady_mul {t m : Int} {g : Good} (ht : 0 ≤ t) (S : Steady g) : Steady (mulG t m g) := by
  refine ⟨fun d hd => ?_, fun k d e hd he => ?_⟩
  · obtain ⟨d0, h0, rfl⟩ := List.mem_map.mp hd
    show (d0.fine).map (· * t) = none
    rw [S.nofine d0 h0]
    rfl
  · have hd : (g.days.map (mulD t m))[k]? = some d := hd
    have he : (g.days.map (mulD t m))[k + 1]? = some e := he
    rw [List.getElem?_map] at hd he
    obtain ⟨d0, hd0, rfl⟩ := Option.map_eq_some_iff.mp hd
    obtain ⟨e0, he0, rfl⟩ := Option.map_eq_some_iff.mp he
    have := Int.mul_le_mul_of_nonneg_right (S.never k d0 e0 hd0 he0) ht
    rw [Int.add_mul] at this
    show e0.loaf * t + m ≤ d0.loaf * t + m + d0.keep * t
    omega
theorem ends_mul {t m : Int} {g : Good} {lights row : Nat → Int} {j d : Nat} (ht : 0 < t) : EndsAt (mulG t m g) (fun b => lights b * t) (fun j => row j * t + m * wsum g 0 j) j d ↔ EndsAt g lights row j d := by
  have key : ∀ s, d < j → ((row d * t + m * wsum g 0 d) + lights d * t + (s * t + m * wsum g d (j - d)) = row j * t + m * wsum g 0 j ↔ row d + lights d + s = row j) := fun s hd => by
    have e := wsum_join g d (j - d)
    rw [show d + (j - d) = j by omega] at e
    rw [← e, Int.mul_add]
    have e2 : row d * t + lights d * t + s * t = (row d + lights d + s) * t := by rw [Int.add_mul, Int.add_mul]
    constructor
    · intro h
      have h' : (row d + lights d + s) * t = row j * t := by rw [← e2]; omega
      exact Int.eq_of_mul_eq_mul_right (by omega) h'
    · intro h
      have h' : (row d + lights d + s) * t = row j * t := by rw [h]
      rw [← e2] at h'
      omega
  have ws : sumN (fun i => wantN (mulG t m g) (d + i)) (j - d) = sumN (fun i => wantN g (d + i)) (j - d) := sumN_congr _ fun k _ => wantN_mul t m g _
  constructor
  · rintro ⟨h1, h2, s, hs, he⟩
    rw [ws] at h2
    rw [seg_mul] at hs
    obtain ⟨s0, hs0, e⟩ := Option.map_eq_some_iff.mp hs
    subst e
    exact ⟨h1, h2, s0, hs0, (key s0 h1).mp he⟩
  · rintro ⟨h1, h2, s, hs, he⟩
    exact ⟨h1, by rw [ws]; exact h2, _, by rw [seg_mul, hs]; rfl, (key s h1).mpr he⟩
/-! ### a day ahead that wants nothing -/
def aheadG (d : Day) (g : Good) : Good := ⟨d :: g.days, g.life⟩
theorem keeps_ahead (d : Day) (ds : List Day) (i j : Nat) : keepsL (d :: ds) (i + 1) (j + 1) = keepsL ds i j := by
  unfold keepsL
  rw [List.drop_succ_cons, Nat.add_sub_add_right]
theorem fines_ahead (d : Day) (ds : List Day) (i j : Nat) : finesL (d :: ds) (i + 1) (j + 1) = finesL ds i j := by
  unfold finesL
  rw [List.drop_succ_cons, Nat.add_sub_add_right]
theorem loaf_ahead (d : Day) (g : Good) (j k : Nat) : loafP (aheadG d g) (j + 1) (k + 1) = loafP g j k := by
  unfold loafP aheadG
  show (match (d :: g.days)[j + 1]? with | none => none | some e => if k + 1 < j + 1 then (finesL (d :: g.days) (k + 1) (j + 1)).map (e.loaf + ·) else match g.life with | none => some (e.loaf + keepsL (d :: g.days) (j + 1) (k + 1)) | some l => if l < ((k + 1 : Nat) : Int) - ((j + 1 : Nat) : Int) then none else some (e.loaf + keepsL (d :: g.days) (j + 1) (k + 1))) = _
  rw [List.getElem?_cons_succ, fines_ahead, keeps_ahead, show ((k + 1 : Nat) : Int) - ((j + 1 : Nat) : Int) = (k : Int) - (j : Int) by omega]
  cases g.days[j]? with
  | none => rfl
  | some e =>
    show (if k + 1 < j + 1 then _ else _) = (if k < j then _ else _)
    by_cases h : k < j
    · rw [if_pos h, if_pos (by omega)]
    · rw [if_neg h, if_neg (by omega)]
      all_goals cases g.life <;> rfl
theorem wantP_ahead (d : Day) (g : Good) (j k : Nat) : wantP (aheadG d g) (j + 1) (k + 1) = wantP g j k := by
  unfold wantP
  rw [loaf_ahead]
  rfl
theorem want_first {d : Day} {g : Good} {e : Day} (he : g.days[0]? = some e) (hl : e.loaf ≤ d.loaf) (hk : 0 ≤ d.keep) (N : NonNegW g.days) {k : Nat} {z : Int} (h : wantP (aheadG d g) 0 (k + 1) = some z) : ∃ y, wantP g 0 k = some y ∧ y ≤ z := by
  unfold wantP at h ⊢
  have hdk : (aheadG d g).days[k + 1]? = g.days[k]? := rfl
  rw [hdk] at h
  cases hd : g.days[k]? with
  | none => rw [hd] at h; cases h
  | some dk =>
    rw [hd] at h
    dsimp only at h ⊢
    by_cases h0 : dk.want = 0
    · rw [if_pos h0] at h ⊢
      cases h
      exact ⟨0, rfl, Int.le_refl _⟩
    · rw [if_neg h0] at h ⊢
      obtain ⟨y, hy, e2⟩ := Option.map_eq_some_iff.mp h
      have hkeep : keepsL (d :: g.days) 0 (k + 1) = d.keep + keepsL g.days 0 k := by
        unfold keepsL
        rw [List.drop_zero, List.drop_zero, Nat.sub_zero, Nat.sub_zero, List.take_succ_cons, List.map_cons, List.sum_cons]
      have hlp : ∃ x, loafP g 0 k = some x ∧ x ≤ y := by
        unfold loafP aheadG at hy
        unfold loafP
        have hy : (if k + 1 < 0 then (finesL (d :: g.days) (k + 1) 0).map (d.loaf + ·) else match g.life with | none => some (d.loaf + keepsL (d :: g.days) 0 (k + 1)) | some l => if l < ((k + 1 : Nat) : Int) - ((0 : Nat) : Int) then none else some (d.loaf + keepsL (d :: g.days) 0 (k + 1))) = some y := hy
        rw [if_neg (by omega), hkeep] at hy
        rw [he]
        dsimp only
        rw [if_neg (by omega)]
        cases hlf : g.life with
        | none =>
          rw [hlf] at hy
          have hy : some (d.loaf + (d.keep + keepsL g.days 0 k)) = some y := hy
          cases hy
          exact ⟨_, rfl, by omega⟩
        | some l =>
          rw [hlf] at hy
          dsimp only at hy ⊢
          by_cases hc : l < ((k + 1 : Nat) : Int) - ((0 : Nat) : Int)
          · rw [if_pos hc] at hy; cases hy
          · rw [if_neg hc] at hy
            cases hy
            rw [if_neg (by omega)]
            exact ⟨_, rfl, by omega⟩
      obtain ⟨x, hx, hle⟩ := hlp
      refine ⟨dk.want * x, by rw [hx]; rfl, ?_⟩
      rw [← e2]
      have := Int.mul_le_mul_of_nonneg_left hle (N.want dk (List.mem_of_getElem? hd))
      exact this
theorem seg_ahead (d : Day) (g : Good) (b f : Nat) : ∀ n, segP (wantP (aheadG d g) (b + 1)) (f + 1) n = segP (wantP g b) f n := fun n => by
  unfold segP
  congr 1
  refine List.map_congr_left fun i _ => ?_
  rw [show f + 1 + i = f + i + 1 by omega, wantP_ahead]
theorem seg_first {d : Day} {g : Good} {e : Day} (he : g.days[0]? = some e) (hl : e.loaf ≤ d.loaf) (hk : 0 ≤ d.keep) (N : NonNegW g.days) (f : Nat) : ∀ (n : Nat) (s : Int), segP (wantP (aheadG d g) 0) (f + 1) n = some s → ∃ u, segP (wantP g 0) f n = some u ∧ u ≤ s
  | 0, s, h => by
    rw [segP_zero] at h
    cases h
    exact ⟨0, segP_zero _ _, Int.le_refl _⟩
  | n + 1, s, h => by
    obtain ⟨x, y, hx, hy, e1⟩ := segP_succ h
    obtain ⟨u, hu, hle⟩ := seg_first he hl hk N f n x hx
    rw [show f + 1 + n = f + n + 1 by omega] at hy
    obtain ⟨v, hv, hle2⟩ := want_first he hl hk N hy
    exact ⟨u + v, segP_add hu hv, by omega⟩
def shiftF (c : Int) (f : Nat → Int) : Nat → Int
  | 0 => c
  | k + 1 => f k
theorem row_ahead {d : Day} {g : Good} {e : Day} {lights row : Nat → Int} {n : Nat} {c : Int} (he : g.days[0]? = some e) (hw : d.want = 0) (hl : e.loaf ≤ d.loaf) (hk : 0 ≤ d.keep) (hc : lights 0 ≤ c) (hc0 : 0 ≤ lights 0) (hln : ∀ b, 0 ≤ lights b) (N : NonNegW g.days) (N' : NonNegW (aheadG d g).days) (hR : IsRow g lights row n) : IsRow (aheadG d g) (shiftF c lights) (shiftF 0 row) (n + 1) := by
  have w0 : ∀ b, wantP (aheadG d g) b 0 = some 0 := fun b => by
    unfold wantP aheadG
    show (if d.want = 0 then some 0 else _) = some 0
    rw [if_pos hw]
  have ln : ∀ b, 0 ≤ shiftF c lights b := fun b => by
    cases b with
    | zero => show 0 ≤ c; omega
    | succ b => exact hln b
  refine ⟨rfl, fun k hk' => ?_, fun k hk' v hv => ?_⟩
  · cases k with
    | zero =>
      refine .inr ⟨⟨d, rfl, hw⟩, ?_⟩
      show row 0 = 0
      exact hR.zero
    | succ k =>
      rcases hR.some k (by omega) with ⟨b, f, s, hb, hf, hs, hv⟩ | ⟨⟨d0, hd0, hw0⟩, hv⟩
      · refine .inl ⟨b + 1, f + 1, s, by omega, by omega, ?_, ?_⟩
        · rw [seg_ahead, show k + 1 + 1 - (f + 1) = k + 1 - f by omega]
          exact hs
        · exact hv
      · exact .inr ⟨⟨d0, hd0, hw0⟩, hv⟩
  · cases k with
    | zero =>
      show row 0 ≤ v
      rw [hR.zero]
      rcases hv with ⟨b, f, s, hb, hf, hs, hv⟩ | ⟨_, hv⟩
      · have h0 : f = 0 := by omega
        subst h0
        have := segP_nonneg (fun k z e => wantP_nonneg N' e) hs
        have := ln b
        rw [hv]
        show 0 ≤ 0 + shiftF c lights b + s
        omega
      · rw [hv]; exact Int.le_refl 0
    | succ k =>
      show row (k + 1) ≤ v
      have main : ∀ b f s, b ≤ k + 1 → f ≤ k → segP (wantP (aheadG d g) b) (f + 1) (k + 1 - f) = some s → row (k + 1) ≤ row f + shiftF c lights b + s := fun b f s hb hf hs => by
        cases b with
        | zero =>
          obtain ⟨u, hu, hle⟩ := seg_first he hl hk N f _ _ hs
          have := hR.least k (by omega) _ (.inl ⟨0, f, u, by omega, hf, hu, rfl⟩)
          show _ ≤ row f + c + s
          omega
        | succ b =>
          rw [seg_ahead] at hs
          exact hR.least k (by omega) _ (.inl ⟨b, f, s, by omega, hf, hs, rfl⟩)
      rcases hv with ⟨b, f, s, hb, hf, hs, hv⟩ | ⟨⟨d0, hd0, hw0⟩, hv⟩
      · cases f with
        | zero =>
          rw [show k + 1 + 1 - 0 = 1 + (k + 1) by omega] at hs
          obtain ⟨x, y, hx, hy, e1⟩ := segP_split (k + 1) 1 hs
          have hx0 : x = 0 := by
            obtain ⟨u, z, hu, hz, e2⟩ := segP_succ hx
            rw [segP_zero] at hu
            cases hu
            rw [Nat.add_zero, w0] at hz
            cases hz
            omega
          have := main b 0 y hb (Nat.zero_le _) (by rw [Nat.sub_zero]; exact hy)
          rw [hv]
          show row (k + 1) ≤ 0 + shiftF c lights b + s
          rw [hR.zero] at this
          omega
        | succ f =>
          rw [show k + 1 + 1 - (f + 1) = k + 1 - f by omega] at hs
          have := main b f s hb (by omega) hs
          rw [hv]
          exact this
      · rw [hv]
        exact hR.least k (by omega) _ (.inr ⟨⟨d0, hd0, hw0⟩, rfl⟩)
end Bk

namespace Bk
open PySem PySem.Spec PyProof.Rows L2
local macro_rules | `(tactic| walk_at "wp") => `(tactic| try simp only [tNever, tFor_eq, tLc_eq, iList, iTup, iRng1_eq, rRng1_i, iRng2_eq, rRng2_i, iEnum_eq, rEnum_r, iZip_eq, rZip_r, tSl, tPart, tNoPart, rSlL_r, rCat_r, rIn_r, gTup_r, gUnl_r, rInt1_b, rInt1_i, rRep_r, tStep_r, scal, tSeq, tNext, tAsg, tRet, tRetN, tIfS, tDrop, tCB, tCons, tNil, tVar, tOp, tUn, tC, rU_i, rI_ii, rI0_ii, rEq, rNe, tTest, tB, tAnd, tOr, tNot, tAndV, tOrV, tNotV, tIf, tChain, tLst, tTup, tBM, tBM0, rAppend_r, rIxL_r, rIxT_r, rMx_ii, rMn_ii, rLnL_r, rLnT_r, rIsD_int, rIsD_bool, rIsD_list, rIsD_tuple, tCall, gName, gNil_n, gCons_c, cxK, L2.start, List.map, List.replicate, List.length_cons, List.length_nil, List.cons_append, List.nil_append, List.append_nil, List.getElem?_cons_zero, List.getElem?_cons_succ, Option.some.injEq, exists_eq_left', exists_eq_left, V.int.injEq, V.bl.injEq, V.str.injEq, V.ref.injEq, List.cons.injEq, and_true, true_and, and_self, List.set, wipe, rAll_r, rSum_r, reduceCtorEq, decide_true, decide_false, reduceIte, ite_true, ite_false, if_true, if_false, Bool.false_eq_true, Bool.not_true, Bool.not_false])
local macro_rules | `(tactic| walk_at "shaped") => `(tactic| (simp only [SeqAt.shaped, PyData.canLay0, PyData.canLayAll0, PyData.depth, PyData.depthAll]; rfl))
local macro_rules | `(tactic| walk_at "lay") => `(tactic| (simp only [PyData.canLay0, PyData.canLayAll0]; rfl))
def top (i : Nat) : Stmt := PySem.Challenge.pw_bakeahead_k86_whole_prices_times_and_mor.main.body.getD i (.Pass ⟨0, 0, 0, 0⟩)
structure Bi (mg : Str → Option Value) : Prop where
  len : mg "len" = none
  max : mg "max" = none
  min : mg "min" = none
  range : mg "range" = none
  isinstance : mg "isinstance" = none
  int : mg "int" = none
  bool : mg "bool" = none
  list : mg "list" = none
  tuple : mg "tuple" = none
  all : mg "all" = none
  sum : mg "sum" = none
  repr : mg "repr" = none
  enumerate : mg "enumerate" = none
section
variable {P : Program} {w : World} {K : PySem.W.Frag} {mg : Str → Option Value} {base : Heap}
abbrev s_is_whole : Stmt := top 7
theorem sc_is_whole : FnScope ["thing"] ["thing"] (defScope s_is_whole) := ⟨rfl, rfl, rfl, by decide +kernel, rfl, by decide +kernel, by decide +kernel⟩
def spWhole (K : PySem.W.Frag) : Sp := fun vs H Q _ => ∃ x d, vs = [x] ∧ Th K H x d ∧ Q (.bl (wholeD d)) H
theorem ok_is_whole {f : Addr} {fd : FuncData} {k : Nat} (F : Fun K "is_whole" "is_whole" s_is_whole f fd) (B : Bi mg) : FnOk P w K mg base CX0 (k + 1) f fd ["thing"] (spWhole K) := by
  refine F.ok sc_is_whole (fun vs H Q E h => ?_) (fun cdv A outer s H vs Q E hr h => ?_)
  · obtain ⟨x, d, rfl, _⟩ := h
    rfl
  · obtain ⟨x, d, rfl, hx, q⟩ := h
    refine ⟨_, (pss_one (ps_ret (pe_and (pe_callB (call_isD .int) (by rfl) B.isinstance (by decide +kernel) (pa_cons (pv 0) (pa_cons (pe_bltn (v := .ty "int") (by rfl) B.int (by decide +kernel) rfl) pa_nil))) (pe_one (pe_not (pe_callB (call_isD .bool) (by rfl) B.isinstance (by decide +kernel) (pa_cons (pv 0) (pa_cons (pe_bltn (v := .ty "bool") (by rfl) B.bool (by decide +kernel) rfl) pa_nil)))))))), ?_⟩
    walk_at "wp"
    refine ⟨d, hx, ite2 (fun h => ⟨d, hx, ?_⟩) (fun h => ?_)⟩
    · rw [← wholeD_is, h] at q
      exact q
    · rw [← wholeD_is, Bool.eq_false_iff.mpr h] at q
      exact q
abbrev s_is_number : Stmt := top 8
theorem sc_is_number : FnScope ["thing"] ["thing"] (defScope s_is_number) := ⟨rfl, rfl, rfl, by decide +kernel, rfl, by decide +kernel, by decide +kernel⟩
def spNum (K : PySem.W.Frag) : Sp := fun vs H Q _ => ∃ x d, vs = [x] ∧ Th K H x d ∧ Q (.bl (numD d)) H
theorem ok_is_number {f : Addr} {fd : FuncData} {k : Nat} (F : Fun K "is_number" "is_number" s_is_number f fd) (B : Bi mg) {t : Tok} (M_GREATEST : mg "GREATEST" = some (.int 1000000000 t)) (D_is_whole : Def P w K mg base "is_whole" (k + 1) ["thing"] (spWhole K)) :
    FnOk P w K mg base CX0 (k + 2) f fd ["thing"] (spNum K) := by
  refine F.ok sc_is_number (fun vs H Q E h => ?_) (fun cdv A outer s H vs Q E hr h => ?_)
  · obtain ⟨x, d, rfl, _⟩ := h
    rfl
  · obtain ⟨x, d, rfl, hx, q⟩ := h
    refine ⟨_, (pss_one (ps_ret (pe_and (pe_callD D_is_whole hr (by rfl) (pa_cons (pv 0) pa_nil)) (pe_one (pe_chain op_le op_le pe_int (pv 0) (pe_globI rfl M_GREATEST)))))), ?_⟩
    walk_at "wp"
    refine ⟨x, d, rfl, hx, ?_⟩
    walk_at "wp"
    cases hx with
    | int i =>
      simp only [wholeD]
      walk_at "wp"
      refine ite2 (fun h => ?_) (fun h => ?_)
      · show Q (.bl (decide (i ≤ 1000000000))) H
        simp only [numD, h, Bool.true_and] at q
        exact q
      · simp only [numD, Bool.eq_false_iff.mpr h, Bool.false_and] at q
        exact q
    | _ => exact q

abbrev s_is_tuple_of : Stmt := top 13
theorem sc_is_tuple_of : FnScope ["thing", "many"] ["thing", "many"] (defScope s_is_tuple_of) := ⟨rfl, rfl, rfl, by decide +kernel, rfl, by decide +kernel, by decide +kernel⟩
def spTupleOf (K : PySem.W.Frag) : Sp := fun vs H Q _ => ∃ x d, ∃ n : Nat, vs = [x, .int (n : Int)] ∧ Th K H x d ∧ Q (.bl (tupB n d)) H
theorem ok_is_tuple_of {f : Addr} {fd : FuncData} (F : Fun K "is_tuple_of" "is_tuple_of" s_is_tuple_of f fd) (B : Bi mg) : FnOk P w K mg base CX0 1 f fd ["thing", "many"] (spTupleOf K) := by
  refine F.ok sc_is_tuple_of (fun vs H Q E h => ?_) (fun cdv A outer s H vs Q E hr h => ?_)
  · obtain ⟨x, d, n, rfl, _⟩ := h
    rfl
  · obtain ⟨x, d, n, rfl, hx, q⟩ := h
    refine ⟨_, (pss_one (ps_ret (pe_and (pe_callB (call_isD .tuple) (by rfl) B.isinstance (by decide +kernel) (pa_cons (pv 0) (pa_cons (pe_bltn (v := .ty "tuple") (by rfl) B.tuple (by decide +kernel) rfl) pa_nil))) (pe_one (pe_cmpR op_eq (pe_callB call_lnT (by rfl) B.len (by decide +kernel) (pa_cons (pv 0) pa_nil)) (pv 1) (nomark _)))))), ?_⟩
    walk_at "wp"
    refine ⟨d, hx, ?_⟩
    cases hx with
    | tup ht ha =>
      simp only [isD]
      walk_at "wp"
      refine ⟨_, ht, qb ?_ q⟩
      rw [ha.length]
      exact decide_eq_decide.mpr (by omega)
    | _ => exact q
abbrev s_is_list_of : Stmt := top 14
theorem sc_is_list_of : FnScope ["thing", "fewest", "most"] ["thing", "fewest", "most"] (defScope s_is_list_of) := ⟨rfl, rfl, rfl, by decide +kernel, rfl, by decide +kernel, by decide +kernel⟩
def spListOf (K : PySem.W.Frag) : Sp := fun vs H Q _ => ∃ x d, ∃ n m : Nat, vs = [x, .int (n : Int), .int (m : Int)] ∧ Th K H x d ∧ Q (.bl (listB n m d)) H
theorem ok_is_list_of {f : Addr} {fd : FuncData} (F : Fun K "is_list_of" "is_list_of" s_is_list_of f fd) (B : Bi mg) : FnOk P w K mg base CX0 1 f fd ["thing", "fewest", "most"] (spListOf K) := by
  refine F.ok sc_is_list_of (fun vs H Q E h => ?_) (fun cdv A outer s H vs Q E hr h => ?_)
  · obtain ⟨x, d, n, m, rfl, _⟩ := h
    rfl
  · obtain ⟨x, d, n, m, rfl, hx, q⟩ := h
    refine ⟨_, (pss_one (ps_ret (pe_and (pe_callB (call_isD .list) (by rfl) B.isinstance (by decide +kernel) (pa_cons (pv 0) (pa_cons (pe_bltn (v := .ty "list") (by rfl) B.list (by decide +kernel) rfl) pa_nil))) (pe_one (pe_chain op_le op_le (pv 1) (pe_callB call_lnL (by rfl) B.len (by decide +kernel) (pa_cons (pv 0) pa_nil)) (pv 2)))))), ?_⟩
    walk_at "wp"
    refine ⟨d, hx, ?_⟩
    cases hx with
    | lst ht ha =>
      simp only [isD]
      walk_at "wp"
      refine ⟨_, ht, ?_⟩
      have e1 : ∀ a b : Nat, decide ((a : Int) ≤ (b : Int)) = decide (a ≤ b) := fun a b => decide_eq_decide.mpr (by omega)
      rw [ha.length, e1, e1]
      refine ite2 (fun h => qb ?_ q) (fun h => qb ?_ q)
      · simp only [listB, h, Bool.true_and]
      · simp only [listB, Bool.eq_false_iff.mpr h, Bool.false_and]
    | _ => exact q
abbrev s_are_lights : Stmt := top 16
theorem sc_are_lights : FnScope ["thing", "light"] ["thing"] (defScope s_are_lights) := ⟨rfl, rfl, rfl, by decide +kernel, rfl, by decide +kernel, by decide +kernel⟩
def spPred (K : PySem.W.Frag) (p : PyData → Bool) : Sp := fun vs H Q _ => ∃ x d, vs = [x] ∧ Th K H x d ∧ ∀ H', Same H H' → Q (.bl (p d)) H'
theorem ok_are_lights {f : Addr} {fd : FuncData} (F : Fun K "are_lights" "are_lights" s_are_lights f fd) (B : Bi mg) {t : Tok} (M_MOST_DAYS : mg "MOST_DAYS" = some (.int 40 t)) (D_is_list_of : Def P w K mg base "is_list_of" 1 ["thing", "fewest", "most"] (spListOf K)) (D_is_number : Def P w K mg base "is_number" 2 ["thing"] (spNum K)) :
    FnOk P w K mg base CX0 3 f fd ["thing"] (spPred K lightsB) := by
  refine F.ok sc_are_lights (fun vs H Q E h => ?_) (fun cdv A outer s H vs Q E hr h => ?_)
  · obtain ⟨x, d, rfl, _⟩ := h
    rfl
  · obtain ⟨x, d, rfl, hx, q⟩ := h
    refine ⟨_, (pss_one (ps_ret (pe_and (pe_callD D_is_list_of hr (by rfl) (pa_cons (pv 0) (pa_cons pe_int (pa_cons (pe_globI rfl M_MOST_DAYS) pa_nil)))) (pe_one (pe_callB (cr_all rfl) (by rfl) B.all (by decide +kernel) (pa_cons (pe_lc (own := [("light", 1)]) (g := (gName 1)) rfl sc_are_lights.nd (pi_list (pv 0)) (blkOk_by (own := [("light", 1)]) (N := ["thing", "light"]) (sc := defScope s_are_lights) (by decide +kernel)) (fun _ _ _ _ _ => (pg_name (i := 1) sc_are_lights.nd rfl (Or.inl rfl))) (fun _ _ _ _ _ => pts_nil) (fun _ _ _ _ _ => (pe_callD D_is_number hr (by rfl) (pa_cons (pv 1) pa_nil)))) pa_nil)))))), ?_⟩
    walk_at "wp"
    refine ⟨x, d, 1, 40, rfl, hx, ?_⟩
    walk_at "wp"
    cases hx with
    | lst hs ha =>
      refine ite2 (fun h => ?_) (fun h => ?_)
      · have hl := ha.length
        have h40 : _ ≤ 40 := of_decide_eq_true (Bool.and_eq_true_iff.mp h).2
        walk_at "wp"
        refine ⟨⟨_, hs⟩, fun D hD => ?_⟩
        rename_i ds
        refine LcR.map (walk_list (xs := _)) ((ds.map numD).map V.bl) hD (by rw [List.length_map, List.length_map, hl]) (by omega) (fun H s => s.seq hs) (fun _ _ _ _ y => yat_same y) (fun i x y H0 H1 hi s1 yy hy R hR => ?_) (fun H1 s1 hH => ?_)
        · obtain ⟨rfl, hx⟩ := yy
          obtain ⟨d, hd, hxd⟩ := ha.get hx
          walk_at "wp"
          refine ⟨x, d, rfl, hxd.same s1, ?_⟩
          rw [List.getElem?_map, List.getElem?_map, hd] at hy
          cases hy
          exact hR _ (Same.refl _)
        · refine ⟨ds.map numD, SqL.of hH, qb ?_ (q _ s1)⟩
          simp only [lightsB, h, Bool.true_and, List.all_map]
          rfl
      · exact qb (by simp only [lightsB, Bool.eq_false_iff.mpr h, Bool.false_and]) (q H (Same.refl _))
    | _ => exact q H (Same.refl _)
abbrev s_is_bound : Stmt := top 17
theorem sc_is_bound : FnScope ["thing"] ["thing"] (defScope s_is_bound) := ⟨rfl, rfl, rfl, by decide +kernel, rfl, by decide +kernel, by decide +kernel⟩
theorem ok_is_bound {f : Addr} {fd : FuncData} (F : Fun K "is_bound" "is_bound" s_is_bound f fd) (D_is_number : Def P w K mg base "is_number" 2 ["thing"] (spNum K)) :
    FnOk P w K mg base CX0 3 f fd ["thing"] (spPred K boundB) := by
  refine F.ok sc_is_bound (fun vs H Q E h => ?_) (fun cdv A outer s H vs Q E hr h => ?_)
  · obtain ⟨x, d, rfl, _⟩ := h
    rfl
  · obtain ⟨x, d, rfl, hx, q⟩ := h
    refine ⟨_, (pss_one (ps_ret (pe_or (pe_cmpR op_isN (pv 0) pe_non (nomark _)) (pe_one (pe_and (pe_callD D_is_number hr (by rfl) (pa_cons (pv 0) pa_nil)) (pe_one (pe_cmpR op_ge (pv 0) pe_int (nomark _)))))))), ?_⟩
    have hy := hx
    have q0 := q H (Same.refl _)
    cases hx with
    | non =>
      walk_at "wp"
      exact q0
    | int i =>
      walk_at "wp"
      refine ⟨_, _, rfl, hy, ?_⟩
      walk_at "wp"
      refine ite2 (fun h => qb ?_ q0) (fun h => qb ?_ q0)
      · simp only [boundB, h, Bool.true_and]
      · simp only [boundB, Bool.eq_false_iff.mpr h, Bool.false_and]
    | _ =>
      walk_at "wp"
      refine ⟨_, _, rfl, hy, ?_⟩
      exact ⟨_, rfl, iteF q0⟩
abbrev s_is_life : Stmt := top 18
theorem sc_is_life : FnScope ["thing"] ["thing"] (defScope s_is_life) := ⟨rfl, rfl, rfl, by decide +kernel, rfl, by decide +kernel, by decide +kernel⟩
theorem ok_is_life {f : Addr} {fd : FuncData} (F : Fun K "is_life" "is_life" s_is_life f fd) {t : Tok} (M_LONGEST_LIFE : mg "LONGEST_LIFE" = some (.int 40 t)) (D_is_whole : Def P w K mg base "is_whole" 1 ["thing"] (spWhole K)) :
    FnOk P w K mg base CX0 3 f fd ["thing"] (spPred K lifeB) := by
  refine F.ok sc_is_life (fun vs H Q E h => ?_) (fun cdv A outer s H vs Q E hr h => ?_)
  · obtain ⟨x, d, rfl, _⟩ := h
    rfl
  · obtain ⟨x, d, rfl, hx, q⟩ := h
    refine ⟨_, (pss_one (ps_ret (pe_or (pe_cmpR op_isN (pv 0) pe_non (nomark _)) (pe_one (pe_and (pe_callD D_is_whole hr (by rfl) (pa_cons (pv 0) pa_nil)) (pe_one (pe_chain op_le op_le pe_int (pv 0) (pe_globI rfl M_LONGEST_LIFE)))))))), ?_⟩
    have hy := hx
    have q0 := q H (Same.refl _)
    cases hx with
    | non =>
      walk_at "wp"
      exact q0
    | int i =>
      walk_at "wp"
      refine ⟨_, _, rfl, hy, ?_⟩
      simp only [wholeD]
      walk_at "wp"
      refine ite2 (fun h => qb ?_ q0) (fun h => qb ?_ q0)
      · simp only [lifeB, h, Bool.true_and]
      · simp only [lifeB, Bool.eq_false_iff.mpr h, Bool.false_and]
    | _ =>
      walk_at "wp"
      refine ⟨_, _, rfl, hy, ?_⟩
      exact ⟨_, rfl, iteF q0⟩
abbrev s_is_day : Stmt := top 19
theorem sc_is_day : FnScope ["thing", "want", "loaf", "keep", "fine", "part"] ["thing"] (defScope s_is_day) := ⟨rfl, rfl, rfl, by decide +kernel, rfl, by decide +kernel, by decide +kernel⟩
theorem ok_is_day {f : Addr} {fd : FuncData} (F : Fun K "is_day" "is_day" s_is_day f fd) (B : Bi mg) (D_is_tuple_of : Def P w K mg base "is_tuple_of" 1 ["thing", "many"] (spTupleOf K)) (D_is_number : Def P w K mg base "is_number" 2 ["thing"] (spNum K)) :
    FnOk P w K mg base CX0 3 f fd ["thing"] (spPred K dayB) := by
  refine F.ok sc_is_day (fun vs H Q E h => ?_) (fun cdv A outer s H vs Q E hr h => ?_)
  · obtain ⟨x, d, rfl, _⟩ := h
    rfl
  · obtain ⟨x, d, rfl, hx, q⟩ := h
    refine ⟨_, (pss_cons (ps_if (pt_not (pt_val (pe_callD D_is_tuple_of hr (by rfl) (pa_cons (pv 0) (pa_cons pe_int pa_nil))))) (pss_one (ps_ret pe_bl)) pss_nil)
 (pss_cons (ps_asg (pv 0) (pg_tup rfl (pgs_cons (pg_name (i := 1) sc_is_day.nd rfl (Or.inl rfl)) (pgs_cons (pg_name (i := 2) sc_is_day.nd rfl (Or.inl rfl)) (pgs_cons (pg_name (i := 3) sc_is_day.nd rfl (Or.inl rfl)) (pgs_cons (pg_name (i := 4) sc_is_day.nd rfl (Or.inl rfl)) pgs_nil))))))
 (pss_one (ps_ret (pe_and (pe_callB (cr_all rfl) (by rfl) B.all (by decide +kernel) (pa_cons (pe_lc (own := [("part", 5)]) (g := (gName 5)) rfl sc_is_day.nd (pi_tup (pe_tup (pa_cons (pv 1) (pa_cons (pv 2) (pa_cons (pv 3) pa_nil))))) (blkOk_by (own := [("part", 5)]) (N := ["thing", "want", "loaf", "keep", "fine", "part"]) (sc := defScope s_is_day) (by decide +kernel)) (fun _ _ _ _ _ => (pg_name (i := 5) sc_is_day.nd rfl (Or.inl rfl))) (fun _ _ _ _ _ => pts_nil) (fun _ _ _ _ _ => (pe_callD D_is_number hr (by rfl) (pa_cons (pv 5) pa_nil)))) pa_nil)) (pe_one (pe_or (pe_cmpR op_isN (pv 4) pe_non (nomark _)) (pe_one (pe_callD D_is_number hr (by rfl) (pa_cons (pv 4) pa_nil)))))))))), ?_⟩
    walk_at "wp"
    refine ⟨x, d, 4, rfl, hx, ?_⟩
    walk_at "wp"
    cases hx with
    | tup hs ha =>
      rename_i a xs ds
      refine ite2 (fun h => ?_) (fun h => ?_)
      · refine qb ?_ (q H (Same.refl _))
        have h4 : ¬ ds.length = 4 := of_decide_eq_false (Bool.eq_false_iff.mpr fun z => by rw [show tupB 4 (.tuple ds) = true from z] at h; cases h)
        symm
        match ds, h4 with
        | [], _ => rfl
        | [_], _ => rfl
        | [_, _], _ => rfl
        | [_, _, _], _ => rfl
        | [_, _, _, _], h4 => exact absurd rfl h4
        | _ :: _ :: _ :: _ :: _ :: _, _ => rfl
      · have h4 : ds.length = 4 := of_decide_eq_true (show tupB 4 (.tuple ds) = true by cases e : tupB 4 (.tuple ds) with | true => rfl | false => rw [e] at h; exact absurd rfl h)
        obtain ⟨d1, d2, d3, d4, rfl⟩ := four h4
        cases ha with
        | cons t1 ha => cases ha with
        | cons t2 ha => cases ha with
        | cons t3 ha => cases ha with
        | cons t4 ha =>
        cases ha
        rename_i v1 v2 v3 v4
        walk_at "wp"
        refine ⟨_, hs, rfl, ?_⟩
        walk_at "wp"
        refine ⟨sz100 (by decide), fun p hp => ⟨⟨_, SqT.of upd_same⟩, fun D hD => ?_⟩⟩
        have sp : Same H (upd H p (.tup [v1, v2, v3])) := same_upd hp
        have hT : SqT K (upd H p (.tup [v1, v2, v3])) p [v1, v2, v3] := SqT.of upd_same
        generalize upd H p (.tup [v1, v2, v3]) = Hb at sp hT hD ⊢
        have ta : ThAll K Hb [v1, v2, v3] [d1, d2, d3] := .cons (t1.same sp) (.cons (t2.same sp) (.cons (t3.same sp) .nil))
        refine LcR.map (walk_tup (xs := [v1, v2, v3])) (([d1, d2, d3].map numD).map V.bl) hD rfl (by show 3 ≤ 100000; decide) (fun H s => Same.tup s hT) (fun _ _ _ _ y => yat_same y) (fun i x y H0 H1 hi s1 yy hy R hR => ?_) (fun H1 s1 hH => ?_)
        · obtain ⟨rfl, hx⟩ := yy
          obtain ⟨d, hd, hxd⟩ := ta.get hx
          walk_at "wp"
          refine ⟨x, d, rfl, hxd.same s1, ?_⟩
          rw [List.getElem?_map, List.getElem?_map, hd] at hy
          cases hy
          exact hR _ (Same.refl _)
        · have q1 := q _ (sp.trans s1)
          refine ⟨[d1, d2, d3].map numD, SqL.of hH, ?_⟩
          have e3 : ([d1, d2, d3].map numD).all id = (numD d1 && numD d2 && numD d3) := by
            simp only [List.map, List.all_cons, List.all_nil, id, Bool.and_true, Bool.and_assoc]
          rw [e3]
          refine ite2 (fun h => ?_) (fun h => qb ?_ q1)
          · have t4' := t4.same (sp.trans s1)
            rw [t4'.isNon]
            refine ite2 (fun hn => qb ?_ q1) (fun hn => ⟨_, _, rfl, t4', qb ?_ q1⟩)
            · simp only [dayB, h, hn, Bool.true_or, Bool.true_and]
            · simp only [dayB, h, Bool.eq_false_iff.mpr hn, Bool.false_or, Bool.true_and]
          · simp only [dayB, Bool.eq_false_iff.mpr h, Bool.false_and]
    | _ => exact q H (Same.refl _)
abbrev s_has_bakery_form : Stmt := top 20
theorem sc_has_bakery_form : FnScope ["thing", "lights", "bound", "goods"] ["thing"] (defScope s_has_bakery_form) := ⟨rfl, rfl, rfl, by decide +kernel, rfl, by decide +kernel, by decide +kernel⟩
theorem ok_has_bakery_form {f : Addr} {fd : FuncData} (F : Fun K "has_bakery_form" "has_bakery_form" s_has_bakery_form f fd) (D_is_tuple_of : Def P w K mg base "is_tuple_of" 1 ["thing", "many"] (spTupleOf K)) (D_are_lights : Def P w K mg base "are_lights" 3 ["thing"] (spPred K lightsB))
    (D_is_bound : Def P w K mg base "is_bound" 3 ["thing"] (spPred K boundB)) (D_is_list_of : Def P w K mg base "is_list_of" 1 ["thing", "fewest", "most"] (spListOf K)) {t : Tok} (M_MOST_GOODS : mg "MOST_GOODS" = some (.int 2 t)) :
    FnOk P w K mg base CX0 4 f fd ["thing"] (spPred K bakFormB) := by
  refine F.ok sc_has_bakery_form (fun vs H Q E h => ?_) (fun cdv A outer s H vs Q E hr h => ?_)
  · obtain ⟨x, d, rfl, _⟩ := h
    rfl
  · obtain ⟨x, d, rfl, hx, q⟩ := h
    refine ⟨_, (pss_cons (ps_if (pt_not (pt_val (pe_callD D_is_tuple_of hr (by rfl) (pa_cons (pv 0) (pa_cons pe_int pa_nil))))) (pss_one (ps_ret pe_bl)) pss_nil)
 (pss_cons (ps_asg (pv 0) (pg_tup rfl (pgs_cons (pg_name (i := 1) sc_has_bakery_form.nd rfl (Or.inl rfl)) (pgs_cons (pg_name (i := 2) sc_has_bakery_form.nd rfl (Or.inl rfl)) (pgs_cons (pg_name (i := 3) sc_has_bakery_form.nd rfl (Or.inl rfl)) pgs_nil)))))
 (pss_one (ps_ret (pe_and (pe_callD D_are_lights hr (by rfl) (pa_cons (pv 1) pa_nil)) (pe_and (pe_callD D_is_bound hr (by rfl) (pa_cons (pv 2) pa_nil)) (pe_one (pe_callD D_is_list_of hr (by rfl) (pa_cons (pv 3) (pa_cons pe_int (pa_cons (pe_globI rfl M_MOST_GOODS) pa_nil))))))))))), ?_⟩
    walk_at "wp"
    refine ⟨x, d, 3, rfl, hx, ?_⟩
    walk_at "wp"
    cases hx with
    | tup hs ha =>
      rename_i a xs ds
      refine ite2 (fun h => ?_) (fun h => ?_)
      · refine qb ?_ (q H (Same.refl _))
        have h4 : ¬ ds.length = 3 := of_decide_eq_false (Bool.eq_false_iff.mpr fun z => by rw [show tupB 3 (.tuple ds) = true from z] at h; cases h)
        symm
        match ds, h4 with
        | [], _ => rfl
        | [_], _ => rfl
        | [_, _], _ => rfl
        | [_, _, _], h4 => exact absurd rfl h4
        | _ :: _ :: _ :: _ :: _, _ => rfl
      · have h4 : ds.length = 3 := of_decide_eq_true (show tupB 3 (.tuple ds) = true by cases e : tupB 3 (.tuple ds) with | true => rfl | false => rw [e] at h; exact absurd rfl h)
        obtain ⟨d1, d2, d3, rfl⟩ := three h4
        cases ha with
        | cons t1 ha => cases ha with
        | cons t2 ha => cases ha with
        | cons t3 ha =>
        cases ha
        rename_i v1 v2 v3
        walk_at "wp"
        refine ⟨_, hs, rfl, ?_⟩
        walk_at "wp"
        refine ⟨_, _, rfl, t1, fun H1 s1 => ?_⟩
        walk_at "wp"
        refine ite2 (fun h1 => ⟨_, _, rfl, t2.same s1, fun H2 s2 => ?_⟩) (fun h1 => qb ?_ (q H1 s1))
        · walk_at "wp"
          refine ite2 (fun h2 => ⟨_, _, 1, 2, rfl, t3.same (s1.trans s2), qb ?_ (q H2 (s1.trans s2))⟩) (fun h2 => qb ?_ (q H2 (s1.trans s2)))
          · simp only [bakFormB, h1, h2, Bool.true_and]
          · simp only [bakFormB, h1, Bool.eq_false_iff.mpr h2, Bool.true_and, Bool.false_and]
        · simp only [bakFormB, Bool.eq_false_iff.mpr h1, Bool.false_and]
    | _ => exact q H (Same.refl _)
abbrev s_has_good_form : Stmt := top 21
theorem sc_has_good_form : FnScope ["thing", "many", "days", "life"] ["thing", "many"] (defScope s_has_good_form) := ⟨rfl, rfl, rfl, by decide +kernel, rfl, by decide +kernel, by decide +kernel⟩
def spGoodForm (K : PySem.W.Frag) : Sp := fun vs H Q _ => ∃ x d, ∃ n : Nat, vs = [x, .int (n : Int)] ∧ Th K H x d ∧ ∀ H', Same H H' → Q (.bl (goodFormB n d)) H'
theorem ok_has_good_form {f : Addr} {fd : FuncData} (F : Fun K "has_good_form" "has_good_form" s_has_good_form f fd) (D_is_tuple_of : Def P w K mg base "is_tuple_of" 1 ["thing", "many"] (spTupleOf K)) (D_is_life : Def P w K mg base "is_life" 3 ["thing"] (spPred K lifeB))
    (D_is_list_of : Def P w K mg base "is_list_of" 1 ["thing", "fewest", "most"] (spListOf K)) :
    FnOk P w K mg base CX0 4 f fd ["thing", "many"] (spGoodForm K) := by
  refine F.ok sc_has_good_form (fun vs H Q E h => ?_) (fun cdv A outer s H vs Q E hr h => ?_)
  · obtain ⟨x, d, n, rfl, _⟩ := h
    rfl
  · obtain ⟨x, d, n, rfl, hx, q⟩ := h
    refine ⟨_, (pss_cons (ps_if (pt_not (pt_val (pe_callD D_is_tuple_of hr (by rfl) (pa_cons (pv 0) (pa_cons pe_int pa_nil))))) (pss_one (ps_ret pe_bl)) pss_nil)
 (pss_cons (ps_asg (pv 0) (pg_tup rfl (pgs_cons (pg_name (i := 2) sc_has_good_form.nd rfl (Or.inl rfl)) (pgs_cons (pg_name (i := 3) sc_has_good_form.nd rfl (Or.inl rfl)) pgs_nil))))
 (pss_one (ps_ret (pe_and (pe_callD D_is_list_of hr (by rfl) (pa_cons (pv 2) (pa_cons (pv 1) (pa_cons (pv 1) pa_nil)))) (pe_one (pe_callD D_is_life hr (by rfl) (pa_cons (pv 3) pa_nil)))))))), ?_⟩
    walk_at "wp"
    refine ⟨x, d, 2, rfl, hx, ?_⟩
    walk_at "wp"
    cases hx with
    | tup hs ha =>
      rename_i a xs ds
      refine ite2 (fun h => ?_) (fun h => ?_)
      · refine qb ?_ (q H (Same.refl _))
        have h4 : ¬ ds.length = 2 := of_decide_eq_false (Bool.eq_false_iff.mpr fun z => by rw [show tupB 2 (.tuple ds) = true from z] at h; cases h)
        symm
        match ds, h4 with
        | [], _ => rfl
        | [_], _ => rfl
        | [_, _], h4 => exact absurd rfl h4
        | _ :: _ :: _ :: _, _ => rfl
      · have h4 : ds.length = 2 := of_decide_eq_true (show tupB 2 (.tuple ds) = true by cases e : tupB 2 (.tuple ds) with | true => rfl | false => rw [e] at h; exact absurd rfl h)
        obtain ⟨d1, d2, rfl⟩ := two h4
        cases ha with
        | cons t1 ha => cases ha with
        | cons t2 ha =>
        cases ha
        rename_i v1 v2
        walk_at "wp"
        refine ⟨_, hs, rfl, ?_⟩
        walk_at "wp"
        refine ⟨_, _, n, n, rfl, t1, ?_⟩
        walk_at "wp"
        refine ite2 (fun h1 => ⟨_, _, rfl, t2, fun H2 s2 => qb ?_ (q H2 s2)⟩) (fun h1 => qb ?_ (q H (Same.refl _)))
        · simp only [goodFormB, h1, Bool.true_and]
        · simp only [goodFormB, Bool.eq_false_iff.mpr h1, Bool.false_and]
    | _ => exact q H (Same.refl _)
abbrev s_look_at_goods : Stmt := top 22
theorem sc_look_at_goods : FnScope ["goods", "many", "number", "good", "days", "life", "at", "day"] ["goods", "many"] (defScope s_look_at_goods) := ⟨rfl, rfl, rfl, by decide +kernel, rfl, by decide +kernel, by decide +kernel⟩
def spLookGoods (K : PySem.W.Frag) : Sp := fun vs H Q _ => ∃ x, ∃ n : Nat, ∃ gs, vs = [x, .int (n : Int)] ∧ Th K H x (.list gs) ∧ gs.all (goodB n) = true ∧ ∀ H', Same H H' → Q .non H'
def LgI (x : V) (n : Nat) (H : Hp) (_ : Nat) (σ : L2.St) (H' : Hp) : Prop := (∃ y2 y3 y4 y5 y6 y7, σ = [some x, some (.int (n : Int)), y2, y3, y4, y5, y6, y7]) ∧ Same H H'
def LgJ (x : V) (n : Nat) (v2 v3 v4 v5 : V) (H : Hp) (_ : Nat) (σ : L2.St) (H' : Hp) : Prop := (∃ y6 y7, σ = [some x, some (.int (n : Int)), some v2, some v3, some v4, some v5, y6, y7]) ∧ Same H H'
theorem ok_look_at_goods {f : Addr} {fd : FuncData} (F : Fun K "look_at_goods" "look_at_goods" s_look_at_goods f fd) (B : Bi mg) (D_has_good_form : Def P w K mg base "has_good_form" 4 ["thing", "many"] (spGoodForm K)) (D_is_day : Def P w K mg base "is_day" 3 ["thing"] (spPred K dayB)) :
    FnOk P w K mg base CX0 5 f fd ["goods", "many"] (spLookGoods K) := by
  refine F.ok sc_look_at_goods (fun vs H Q E h => ?_) (fun cdv A outer s H vs Q E hr h => ?_)
  · obtain ⟨x, n, gs, rfl, _⟩ := h
    rfl
  · obtain ⟨x, n, gs, rfl, hx, hg, q⟩ := h
    refine ⟨_, (pss_one (ps_for PassesOwn.never rfl (pi_enum (by rfl) B.enumerate (pa_cons (pv 0) pa_nil)) (pg_tup rfl (pgs_cons (pg_name (i := 2) sc_look_at_goods.nd rfl (Or.inl rfl)) (pgs_cons (pg_name (i := 3) sc_look_at_goods.nd rfl (Or.inl rfl)) pgs_nil))) (pss_cons (ps_if (pt_not (pt_val (pe_callD D_has_good_form hr (by rfl) (pa_cons (pv 3) (pa_cons (pv 1) pa_nil))))) (pss_one ps_never) pss_nil)
 (pss_cons (ps_asg (pv 3) (pg_tup rfl (pgs_cons (pg_name (i := 4) sc_look_at_goods.nd rfl (Or.inl rfl)) (pgs_cons (pg_name (i := 5) sc_look_at_goods.nd rfl (Or.inl rfl)) pgs_nil))))
 (pss_one (ps_for PassesOwn.never rfl (pi_enum (by rfl) B.enumerate (pa_cons (pv 4) pa_nil)) (pg_tup rfl (pgs_cons (pg_name (i := 6) sc_look_at_goods.nd rfl (Or.inl rfl)) (pgs_cons (pg_name (i := 7) sc_look_at_goods.nd rfl (Or.inl rfl)) pgs_nil))) (pss_one (ps_if (pt_not (pt_val (pe_callD D_is_day hr (by rfl) (pa_cons (pv 7) pa_nil)))) (pss_one ps_never) pss_nil)))))))), ?_⟩
    cases hx with
    | lst hs ha =>
    rename_i a xs
    walk_at "wp"
    refine ⟨_, hs, LoopR.by walk_enum (LgI (.ref a) n H) ⟨⟨_, _, _, _, _, _, rfl⟩, Same.refl _⟩ (fun i σ H' _ hI => hI.2.seq hs) (fun i v σ H0 H1 hi hI hY => ?_) (fun σ H' hI => q _ hI.2)⟩
    obtain ⟨⟨y2, y3, y4, y5, y6, y7, rfl⟩, S0⟩ := hI
    have S1 := S0.trans (ypair_same hY)
    obtain ⟨T, z1, z2, rfl, hT, rfl, e1, e2⟩ := hY
    cases e1
    have e2 : xs[i]? = some z2 := e2
    obtain ⟨d, hd, hz⟩ := ha.get e2
    have hdg : goodB n d = true := List.all_eq_true.mp hg d (List.mem_of_getElem? hd)
    obtain ⟨ds, l, rfl, hdl, hlf, hda⟩ := goodB_inv hdg
    walk_at "wp"
    refine ⟨_, SqT.of upd_same, rfl, ?_⟩
    walk_at "wp"
    refine ⟨_, _, n, rfl, hz.same S1, fun H2 S2 => ?_⟩
    rw [show goodFormB n (.tuple [.list ds, l]) = true by simp only [goodFormB, listB, hdl, hlf]; simp]
    walk_at "wp"
    have S3 := S1.trans S2
    have hz3 := hz.same S3
    cases hz3 with
    | tup ht hta =>
    rename_i b ys
    cases hta with
    | cons t1 hta => cases hta with
    | cons t2 hta =>
    cases hta
    rename_i v1 v2
    cases t1 with
    | lst hl1 hl2 =>
    rename_i c zs
    walk_at "wp"
    refine ⟨_, ht, rfl, ?_⟩
    walk_at "wp"
    refine ⟨_, hl1, LoopR.by walk_enum (LgJ (.ref a) n _ _ _ _ H2) ⟨⟨_, _, rfl⟩, Same.refl _⟩ (fun i σ H' _ hI => hI.2.seq hl1) (fun j v σ H4 H5 hj hI hY => ?_) (fun σ H' hI => ?_)⟩
    · obtain ⟨⟨y6, y7, rfl⟩, S4⟩ := hI
      have S5 := S4.trans (ypair_same hY)
      obtain ⟨T2, z3, z4, rfl, hT2, rfl, e3, e4⟩ := hY
      cases e3
      have e4 : zs[j]? = some z4 := e4
      obtain ⟨d2, hd2, hz2⟩ := hl2.get e4
      have hdd : dayB d2 = true := List.all_eq_true.mp hda d2 (List.mem_of_getElem? hd2)
      walk_at "wp"
      refine ⟨_, SqT.of upd_same, rfl, ?_⟩
      walk_at "wp"
      refine ⟨_, _, rfl, hz2.same S5, fun H6 S6 => ?_⟩
      rw [hdd]
      walk_at "wp"
      exact ⟨⟨_, _, rfl⟩, S5.trans S6⟩
    · obtain ⟨⟨y6, y7, rfl⟩, S4⟩ := hI
      exact ⟨⟨_, _, _, _, _, _, rfl⟩, S3.trans S4⟩
abbrev s_look_at_bakery : Stmt := top 23
theorem sc_look_at_bakery : FnScope ["thing", "lights", "bound", "goods"] ["thing"] (defScope s_look_at_bakery) := ⟨rfl, rfl, rfl, by decide +kernel, rfl, by decide +kernel, by decide +kernel⟩
def spLook (K : PySem.W.Frag) : Sp := fun vs H Q _ => ∃ x d, vs = [x] ∧ Th K H x d ∧ bakB d = true ∧ ∀ H', Same H H' → Q .non H'
theorem ok_look_at_bakery {f : Addr} {fd : FuncData} (F : Fun K "look_at_bakery" "look_at_bakery" s_look_at_bakery f fd) (B : Bi mg) (D_has_bakery_form : Def P w K mg base "has_bakery_form" 4 ["thing"] (spPred K bakFormB)) (D_look_at_goods : Def P w K mg base "look_at_goods" 5 ["goods", "many"] (spLookGoods K)) :
    FnOk P w K mg base CX0 6 f fd ["thing"] (spLook K) := by
  refine F.ok sc_look_at_bakery (fun vs H Q E h => ?_) (fun cdv A outer s H vs Q E hr h => ?_)
  · obtain ⟨x, d, rfl, _⟩ := h
    rfl
  · obtain ⟨x, d, rfl, hx, hb, q⟩ := h
    refine ⟨_, (pss_cons (ps_if (pt_not (pt_val (pe_callD D_has_bakery_form hr (by rfl) (pa_cons (pv 0) pa_nil)))) (pss_one ps_never) pss_nil)
 (pss_cons (ps_asg (pv 0) (pg_tup rfl (pgs_cons (pg_name (i := 1) sc_look_at_bakery.nd rfl (Or.inl rfl)) (pgs_cons (pg_name (i := 2) sc_look_at_bakery.nd rfl (Or.inl rfl)) (pgs_cons (pg_name (i := 3) sc_look_at_bakery.nd rfl (Or.inl rfl)) pgs_nil)))))
 (pss_one (ps_expr (pe_callD D_look_at_goods hr (by rfl) (pa_cons (pv 3) (pa_cons (pe_callB call_lnL (by rfl) B.len (by decide +kernel) (pa_cons (pv 1) pa_nil)) pa_nil))))))), ?_⟩
    walk_at "wp"
    refine ⟨_, _, rfl, hx, fun H1 S1 => ?_⟩
    obtain ⟨ls, b, gs, rfl, h1, h2, h3, h4⟩ := bakB_inv hb
    rw [show bakFormB (.tuple [.list ls, b, .list gs]) = true by simp only [bakFormB, h1, h2, h3, Bool.and_self]]
    walk_at "wp"
    have hx1 := hx.same S1
    cases hx1 with
    | tup ht hta =>
    cases hta with
    | cons t1 hta => cases hta with
    | cons t2 hta => cases hta with
    | cons t3 hta =>
    cases hta
    cases t1 with
    | lst hl1 hl2 =>
    walk_at "wp"
    refine ⟨_, ht, rfl, ?_⟩
    walk_at "wp"
    refine ⟨_, hl1, _, ls.length, gs, by rw [hl2.length], t3, h4, fun H2 S2 => q _ (S1.trans S2)⟩
abbrev s_keeps_of : Stmt := top 27
theorem sc_keeps_of : FnScope ["days", "first", "behind", "want", "loaf", "keep", "fine"] ["days", "first", "behind"] (defScope s_keeps_of) := ⟨rfl, rfl, rfl, by decide +kernel, rfl, by decide +kernel, by decide +kernel⟩
def spKeeps (K : PySem.W.Frag) : Sp := fun vs H Q _ => ∃ x ds, ∃ i j : Nat, vs = [x, .int (i : Int), .int (j : Int)] ∧ Th K H x (.list (ds.map dayD)) ∧ ds.length ≤ 1000 ∧ ∀ H', Same H H' → Q (.int (keepsL ds i j)) H'
theorem ok_keeps_of {f : Addr} {fd : FuncData} (F : Fun K "keeps_of" "keeps_of" s_keeps_of f fd) (B : Bi mg) : FnOk P w K mg base CX0 1 f fd ["days", "first", "behind"] (spKeeps K) := by
  refine F.ok sc_keeps_of (fun vs H Q E h => ?_) (fun cdv A outer s H vs Q E hr h => ?_)
  · obtain ⟨x, ds, i, j, rfl, _⟩ := h
    rfl
  · obtain ⟨x, ds, i, j, rfl, hx, hl, q⟩ := h
    refine ⟨_, (pss_one (ps_ret (pe_callB (cr_sum rfl) (by rfl) B.sum (by decide +kernel) (pa_cons (pe_lc (own := [("want", 3), ("loaf", 4), ("keep", 5), ("fine", 6)]) (g := (gTup K 4 (gCons (gName 3) (gCons (gName 4) (gCons (gName 5) (gCons (gName 6) gNil)))))) rfl sc_keeps_of.nd (pi_list (pe_slice sl_list (pv 0) (po_some (pv 1)) (po_some (pv 2)))) (blkOk_by (own := [("want", 3), ("loaf", 4), ("keep", 5), ("fine", 6)]) (N := ["days", "first", "behind", "want", "loaf", "keep", "fine"]) (sc := defScope s_keeps_of) (by decide +kernel)) (fun _ _ _ _ _ => (pg_tup rfl (pgs_cons (pg_name (i := 3) sc_keeps_of.nd rfl (Or.inl rfl)) (pgs_cons (pg_name (i := 4) sc_keeps_of.nd rfl (Or.inl rfl)) (pgs_cons (pg_name (i := 5) sc_keeps_of.nd rfl (Or.inl rfl)) (pgs_cons (pg_name (i := 6) sc_keeps_of.nd rfl (Or.inl rfl)) pgs_nil)))))) (fun _ _ _ _ _ => pts_nil) (fun _ _ _ _ _ => (pv 5))) pa_nil)))), ?_⟩
    cases hx with
    | lst hs ha =>
    rename_i a xs
    walk_at "wp"
    refine ⟨_, hs, fun p hp => ⟨⟨_, SqL.of upd_same⟩, fun D hD => ?_⟩⟩
    rw [cutV_nat] at hD ⊢
    have sp : Same H (upd H p (.lst ((xs.drop i).take (j - i)))) := same_upd hp
    have hL : SqL K (upd H p (.lst ((xs.drop i).take (j - i)))) p ((xs.drop i).take (j - i)) := SqL.of upd_same
    have hb := ((ha.same sp).drop i).take (j - i)
    rw [← List.map_drop, ← List.map_take] at hb
    generalize upd H p (.lst ((xs.drop i).take (j - i))) = Hb at sp hL hD hb ⊢
    generalize hcut : (ds.drop i).take (j - i) = cs at hb
    have hcl : cs.length ≤ 1000 := by
      rw [← hcut, List.length_take, List.length_drop]
      omega
    have hbl := hb.length
    rw [List.length_map] at hbl
    refine LcR.map walk_list (cs.map fun d => V.int d.keep) hD (by rw [List.length_map, hbl]) (by omega) (fun H s => s.seq hL) (fun _ _ _ _ y => yat_same y) (fun i x y H0 H1 hi s1 yy hy R hR => ?_) (fun H1 s1 hH => ?_)
    · obtain ⟨rfl, hx⟩ := yy
      obtain ⟨d, hd, hxd⟩ := hb.get hx
      rw [List.getElem?_map] at hd hy
      cases hc : cs[i]? with
      | none => rw [hc] at hd; cases hd
      | some c =>
        rw [hc] at hd hy
        cases hd
        cases hy
        obtain ⟨t, rfl, ht⟩ := (hxd.same s1).day
        walk_at "wp"
        refine ⟨_, ht, rfl, ?_⟩
        walk_at "wp"
        exact hR _ (Same.refl _)
    · refine ⟨cs.map Day.keep, SqL.of (by rw [List.map_map]; exact hH), ?_⟩
      have q1 := q _ (sp.trans s1)
      unfold keepsL at q1
      rw [hcut] at q1
      exact q1
abbrev s_fines_of : Stmt := top 28
theorem sc_fines_of : FnScope ["days", "first", "behind", "fines", "want", "loaf", "keep", "fine"] ["days", "first", "behind"] (defScope s_fines_of) := ⟨rfl, rfl, rfl, by decide +kernel, rfl, by decide +kernel, by decide +kernel⟩
def spFines (K : PySem.W.Frag) : Sp := fun vs H Q _ => ∃ x ds, ∃ i j : Nat, vs = [x, .int (i : Int), .int (j : Int)] ∧ Th K H x (.list (ds.map dayD)) ∧ ds.length ≤ 1000 ∧ ∀ H', Same H H' → Q (optV (finesL ds i j)) H'
theorem ok_fines_of {f : Addr} {fd : FuncData} (F : Fun K "fines_of" "fines_of" s_fines_of f fd) (B : Bi mg) : FnOk P w K mg base CX0 1 f fd ["days", "first", "behind"] (spFines K) := by
  refine F.ok sc_fines_of (fun vs H Q E h => ?_) (fun cdv A outer s H vs Q E hr h => ?_)
  · obtain ⟨x, ds, i, j, rfl, _⟩ := h
    rfl
  · obtain ⟨x, ds, i, j, rfl, hx, hl, q⟩ := h
    refine ⟨_, (pss_cons (ps_setLc (i := 3) (own := [("want", 4), ("loaf", 5), ("keep", 6), ("fine", 7)]) (g := (gTup K 4 (gCons (gName 4) (gCons (gName 5) (gCons (gName 6) (gCons (gName 7) gNil)))))) rfl sc_fines_of.nd rfl rfl (sw_true rfl rfl rfl (by decide +kernel)) (pi_list (pe_slice sl_list (pv 0) (po_some (pv 1)) (po_some (pv 2)))) (blkOk_by (own := [("want", 4), ("loaf", 5), ("keep", 6), ("fine", 7)]) (N := ["days", "first", "behind", "fines", "want", "loaf", "keep", "fine"]) (sc := defScope s_fines_of) (by decide +kernel)) (fun _ _ _ _ _ => (pg_tup rfl (pgs_cons (pg_name (i := 4) sc_fines_of.nd rfl (Or.inl rfl)) (pgs_cons (pg_name (i := 5) sc_fines_of.nd rfl (Or.inl rfl)) (pgs_cons (pg_name (i := 6) sc_fines_of.nd rfl (Or.inl rfl)) (pgs_cons (pg_name (i := 7) sc_fines_of.nd rfl (Or.inl rfl)) pgs_nil)))))) (fun _ _ _ _ _ => pts_nil) (fun _ _ _ _ _ => (pv 7)))
 (pss_one (ps_ret (pe_ifExp (pt_cmpR op_in_seq pe_non (pv 3) (by rfl)) pe_non (pe_callB (cr_sum rfl) (by rfl) B.sum (by decide +kernel) (pa_cons (pv 3) pa_nil)))))), ?_⟩
    cases hx with
    | lst hs ha =>
    rename_i a xs
    walk_at "wp"
    refine ⟨_, hs, fun p hp => ⟨⟨_, SqL.of upd_same⟩, fun D hD => ?_⟩⟩
    rw [cutV_nat] at hD ⊢
    have sp : Same H (upd H p (.lst ((xs.drop i).take (j - i)))) := same_upd hp
    have hL : SqL K (upd H p (.lst ((xs.drop i).take (j - i)))) p ((xs.drop i).take (j - i)) := SqL.of upd_same
    have hb := ((ha.same sp).drop i).take (j - i)
    rw [← List.map_drop, ← List.map_take] at hb
    generalize upd H p (.lst ((xs.drop i).take (j - i))) = Hb at sp hL hD hb ⊢
    generalize hcut : (ds.drop i).take (j - i) = cs at hb
    have hcl : cs.length ≤ 1000 := by
      rw [← hcut, List.length_take, List.length_drop]
      omega
    have hbl := hb.length
    rw [List.length_map] at hbl
    refine LcR.map walk_list ((cs.map Day.fine).map optV) hD (by rw [List.length_map, List.length_map, hbl]) (by omega) (fun H s => s.seq hL) (fun _ _ _ _ y => yat_same y) (fun i x y H0 H1 hi s1 yy hy R hR => ?_) (fun H1 s1 hH => ?_)
    · obtain ⟨rfl, hx⟩ := yy
      obtain ⟨d, hd, hxd⟩ := hb.get hx
      rw [List.getElem?_map] at hd hy
      rw [List.getElem?_map] at hy
      cases hc : cs[i]? with
      | none => rw [hc] at hd; cases hd
      | some c =>
        rw [hc] at hd hy
        cases hd
        cases hy
        obtain ⟨t, rfl, ht⟩ := (hxd.same s1).day
        walk_at "wp"
        refine ⟨_, ht, rfl, ?_⟩
        walk_at "wp"
        exact hR _ (Same.refl _)
    · have q1 := q _ (sp.trans s1)
      unfold finesL at q1
      rw [hcut] at q1
      refine ⟨_, .inl (SqL.of hH), rfl, flat_opts _, ite2 (fun h => ?_) (fun h => ?_)⟩
      · rw [sumO_none h] at q1
        exact q1
      · obtain ⟨ns, e1, e2⟩ := sumO_some (Bool.eq_false_iff.mpr h)
        rw [e2] at q1
        rw [e1] at hH
        exact ⟨ns, SqL.of hH, q1⟩
abbrev s_loaf_price : Stmt := top 29
theorem sc_loaf_price : FnScope ["good", "baked", "given", "days", "life", "want", "loaf", "keep", "fine", "fines"] ["good", "baked", "given"] (defScope s_loaf_price) := ⟨rfl, rfl, rfl, by decide +kernel, rfl, by decide +kernel, by decide +kernel⟩
def spLoafP (K : PySem.W.Frag) : Sp := fun vs H Q _ => ∃ x g, ∃ j k : Nat, vs = [x, .int (j : Int), .int (k : Int)] ∧ Th K H x (goodD g) ∧ g.days.length ≤ 1000 ∧ j < g.days.length ∧ ∀ H', Same H H' → Q (optV (loafP g j k)) H'
theorem ok_loaf_price {f : Addr} {fd : FuncData} (F : Fun K "loaf_price" "loaf_price" s_loaf_price f fd) (D_fines_of : Def P w K mg base "fines_of" 1 ["days", "first", "behind"] (spFines K)) (D_keeps_of : Def P w K mg base "keeps_of" 1 ["days", "first", "behind"] (spKeeps K)) : FnOk P w K mg base CX0 2 f fd ["good", "baked", "given"] (spLoafP K) := by
  refine F.ok sc_loaf_price (fun vs H Q E h => ?_) (fun cdv A outer s H vs Q E hr h => ?_)
  · obtain ⟨x, g, j, k, rfl, _⟩ := h
    rfl
  · obtain ⟨x, g, j, k, rfl, hx, hl, hj, q⟩ := h
    refine ⟨_, (pss_cons (ps_asg (pv 0) (pg_tup rfl (pgs_cons (pg_name (i := 3) sc_loaf_price.nd rfl (Or.inl rfl)) (pgs_cons (pg_name (i := 4) sc_loaf_price.nd rfl (Or.inl rfl)) pgs_nil))))
 (pss_cons (ps_asg (pe_ix ix_list (pv 3) (pv 1) (fun _ _ => rfl)) (pg_tup rfl (pgs_cons (pg_name (i := 5) sc_loaf_price.nd rfl (Or.inl rfl)) (pgs_cons (pg_name (i := 6) sc_loaf_price.nd rfl (Or.inl rfl)) (pgs_cons (pg_name (i := 7) sc_loaf_price.nd rfl (Or.inl rfl)) (pgs_cons (pg_name (i := 8) sc_loaf_price.nd rfl (Or.inl rfl)) pgs_nil))))))
 (pss_cons (ps_if (pt_cmpR op_gt (pv 1) (pv 2) (nomark _)) (pss_cons (ps_set (i := 9) sc_loaf_price.nd rfl (Or.inl rfl) (pe_callD D_fines_of hr (by rfl) (pa_cons (pv 3) (pa_cons (pv 2) (pa_cons (pv 1) pa_nil)))))
 (pss_one (ps_ret (pe_ifExp (pt_cmpR op_isN (pv 9) pe_non (nomark _)) pe_non (pe_op op_add (pv 6) (pv 9)))))) pss_nil)
 (pss_cons (ps_if (PW.pt (pw_and (pt_cmpR op_notN (pv 4) pe_non (nomark _)) (pw_and1 (pt_cmpR op_gt (pe_op op_sub (pv 2) (pv 1)) (pv 4) (nomark _))))) (pss_one (ps_ret pe_non)) pss_nil)
 (pss_one (ps_ret (pe_op op_add (pv 6) (pe_callD D_keeps_of hr (by rfl) (pa_cons (pv 3) (pa_cons (pv 1) (pa_cons (pv 2) pa_nil))))))))))), ?_⟩
    obtain ⟨t, a, xs, rfl, ht, hs, ha⟩ := hx.good
    have hd : g.days[j]? = some g.days[j] := List.getElem?_eq_getElem hj
    generalize g.days[j] = d at hd
    obtain ⟨v, hv, hvd⟩ := ha.get' (i := j) (d := dayD d) (by rw [List.getElem?_map, hd]; rfl)
    obtain ⟨t2, rfl, ht2⟩ := hvd.day
    walk_at "wp"
    refine ⟨_, ht, rfl, ?_⟩
    walk_at "wp"
    refine ⟨_, _, hs, atI_nat hv, ?_⟩
    walk_at "wp"
    refine ⟨_, ht2, rfl, ?_⟩
    walk_at "wp"
    refine ite2 (fun h => ?_) (fun h => ?_)
    · have hkj : k < j := by have := of_decide_eq_true h; omega
      refine ⟨_, g.days, k, j, rfl, .lst hs ha, hl, fun H1 s1 => ?_⟩
      have q1 := q H1 s1
      simp only [loafP, hd, hkj, if_true] at q1
      cases hf : finesL g.days k j with
      | none =>
        rw [hf] at q1
        simp only [optV]
        walk_at "wp"
        exact q1
      | some z =>
        rw [hf] at q1
        simp only [optV]
        walk_at "wp"
        exact q1
    · have hkj : ¬ k < j := by intro z; exact h (decide_eq_true (by omega))
      have q1 := fun H1 s1 => q H1 s1
      simp only [loafP, hd, hkj, if_false] at q1
      have hkeep : ∀ R : VK, (∀ H1, Same H H1 → R (.int (d.loaf + keepsL g.days j k)) H1) → spKeeps K [V.ref a, V.int (j : Int), V.int (k : Int)] H (fun y H2 => rI0 (fun i j => V.int (i + j)) (V.int d.loaf) y H2 R) E0 := fun R hR =>
        ⟨_, g.days, j, k, rfl, .lst hs ha, hl, fun H1 s1 => ⟨_, _, rfl, rfl, hR H1 s1⟩⟩
      cases hlf : g.life with
      | none =>
        simp only [hlf] at q1
        simp only [optV]
        walk_at "wp"
        exact hkeep Q q1
      | some l =>
        simp only [hlf] at q1
        simp only [optV]
        walk_at "wp"
        refine ite2 (fun h2 => ?_) (fun h2 => ?_)
        · have := q1 H (Same.refl _)
          rw [if_pos (of_decide_eq_true h2)] at this
          exact this
        · refine hkeep Q fun H1 s1 => ?_
          have := q1 H1 s1
          rw [if_neg (fun z => h2 (decide_eq_true z))] at this
          exact this
end
end Bk

namespace Bk
open PySem PySem.Spec PyProof.Rows L2
local macro_rules | `(tactic| walk_at "wp") => `(tactic| try simp only [tNever, tFor_eq, tLc_eq, iList, iTup, iRng1_eq, rRng1_i, iRng2_eq, rRng2_i, iEnum_eq, rEnum_r, iZip_eq, rZip_r, tSl, tPart, tNoPart, rSlL_r, rCat_r, rIn_r, gTup_r, gUnl_r, rInt1_b, rInt1_i, rRep_r, tStep_r, scal, tSeq, tNext, tAsg, tRet, tRetN, tIfS, tDrop, tCB, tCons, tNil, tVar, tOp, tUn, tC, rU_i, rI_ii, rI0_ii, rEq, rNe, tTest, tB, tAnd, tOr, tNot, tAndV, tOrV, tNotV, tIf, tChain, tLst, tTup, tBM, tBM0, rAppend_r, rIxL_r, rIxT_r, rMx_ii, rMn_ii, rLnL_r, rLnT_r, rIsD_int, rIsD_bool, rIsD_list, rIsD_tuple, tCall, gName, gNil_n, gCons_c, cxK, L2.start, List.map, List.replicate, List.length_cons, List.length_nil, List.cons_append, List.nil_append, List.append_nil, List.getElem?_cons_zero, List.getElem?_cons_succ, Option.some.injEq, exists_eq_left', exists_eq_left, V.int.injEq, V.bl.injEq, V.str.injEq, V.ref.injEq, List.cons.injEq, and_true, true_and, and_self, List.set, wipe, rAll_r, rSum_r, reduceCtorEq, decide_true, decide_false, reduceIte, ite_true, ite_false, if_true, if_false, Bool.false_eq_true, Bool.not_true, Bool.not_false])
local macro_rules | `(tactic| walk_at "shaped") => `(tactic| (simp only [SeqAt.shaped, PyData.canLay0, PyData.canLayAll0, PyData.depth, PyData.depthAll]; rfl))
local macro_rules | `(tactic| walk_at "lay") => `(tactic| (simp only [PyData.canLay0, PyData.canLayAll0]; rfl))
section
variable {P : Program} {w : World} {K : PySem.W.Frag} {mg : Str → Option Value} {base : Heap}
abbrev s_numbers : Stmt := top 66
theorem sc_numbers : FnScope ["_law_cell", "_law_salt", "_law_sizes", "_law_number", "_law_left", "_law_found", "_law_k", "_law_one"] ["_law_cell", "_law_salt", "_law_sizes"] (defScope s_numbers) := ⟨rfl, rfl, rfl, by decide +kernel, rfl, by decide +kernel, by decide +kernel⟩
/-- digits: one below each size -/
def Digs (zs fs : List Int) : Prop := fs.length = zs.length ∧ ∀ (i : Nat) (f z : Int), fs[i]? = some f → zs[i]? = some z → 0 ≤ f ∧ f < z
def spNumbers (K : PySem.W.Frag) : Sp := fun vs H Q _ => ∃ (c s : Int) (a : Addr) (zs : List Int), vs = [.int c, .int s, .ref a] ∧ SqL K H a (zs.map V.int) ∧ 0 ≤ s ∧ s ≤ 1000000 ∧ zs.length ≤ 1000 ∧ (∀ z ∈ zs, 0 < z ∧ z.natAbs < 2 ^ 200) ∧
  ∀ H' p fs, Same H H' → H p = none → Digs zs fs → H' p = some (.lst (fs.map V.int)) → Q (.ref p) H'
def NumI (H : Hp) (c s n : Int) (a p : Addr) (zs : List Int) (i : Nat) (σ : L2.St) (H' : Hp) : Prop := ∃ (l : Int) (fs : List Int) (y6 y7 : Option V), σ = [some (.int c), some (.int s), some (.ref a), some (.int n), some (.int l), some (.ref p), y6, y7] ∧ 0 ≤ l ∧ Same H H' ∧ H' p = some (.lst (fs.map V.int)) ∧ fs.length = i ∧
  ∀ (j : Nat) (f z : Int), fs[j]? = some f → zs[j]? = some z → 0 ≤ f ∧ f < z
theorem NumI.next {H H' : Hp} {c s n l x z : Int} {a p : Addr} {zs fs : List Int} {y6 y7 : Option V} (hp : H p = none) (hl : 0 ≤ l) (sm : Same H H') (hb : ∀ (j : Nat) (f z : Int), fs[j]? = some f → zs[j]? = some z → 0 ≤ f ∧ f < z) (g : zs[fs.length]? = some z) (h0 : 0 ≤ x) (h1 : x < z) :
    NumI H c s n a p zs (fs.length + 1) [some (.int c), some (.int s), some (.ref a), some (.int n), some (.int l), some (.ref p), y6, y7] (upd H' p (.lst (fs.map V.int ++ [.int x]))) := by
  refine ⟨l, fs ++ [x], y6, y7, rfl, hl, same_mut sm hp, by rw [upd_same, List.map_append]; rfl, by rw [List.length_append]; rfl, fun j f w e1 e2 => ?_⟩
  by_cases hj : j < fs.length
  · rw [List.getElem?_append_left hj] at e1
    exact hb j f w e1 e2
  · rw [List.getElem?_append_right (by omega)] at e1
    have ej : j - fs.length = 0 := by
      cases q : j - fs.length with
      | zero => rfl
      | succ m => rw [q] at e1; simp at e1
    have ej2 : j = fs.length := by omega
    subst ej2
    rw [ej] at e1
    have e3 : x = f := Option.some.inj e1
    have e4 : z = w := Option.some.inj (g.symm.trans e2)
    subst e3 e4
    exact ⟨h0, h1⟩
theorem ok_numbers {f : Addr} {fd : FuncData} {k : Nat} (F : Fun K "_law_numbers" "_law_numbers" s_numbers f fd) (B : Bi mg) : FnOk P w K mg base CX0 (k + 1) f fd ["_law_cell", "_law_salt", "_law_sizes"] (spNumbers K) := by
  refine F.ok sc_numbers (fun vs H Q E h => ?_) (fun cdv A outer s H vs Q E hr h => ?_)
  · obtain ⟨c, s, a, zs, rfl, _⟩ := h
    rfl
  · obtain ⟨c, s, a, zs, rfl, hS, hs0, hs1, hlen, hz, q⟩ := h
    refine ⟨_, (pss_cons (ps_set (i := 3) sc_numbers.nd rfl (Or.inl rfl) (pe_callB (call_mx rfl) (by rfl) B.max (by decide +kernel) (pa_cons (pv 0) (pa_cons (pe_op op_sub (pe_un un_neg pe_int) (pv 0)) pa_nil))))
 (pss_cons (ps_set (i := 4) sc_numbers.nd rfl (Or.inl rfl) (pv 3))
 (pss_cons (ps_set (i := 5) sc_numbers.nd rfl (Or.inl rfl) (pe_lst pa_nil))
 (pss_cons (ps_for PassesOwn.never rfl (pi_range1 (by rfl) B.range (pa_cons (pe_callB call_lnL (by rfl) B.len (by decide +kernel) (pa_cons (pv 2) pa_nil)) pa_nil)) (pg_name (i := 6) sc_numbers.nd rfl (Or.inl rfl)) (pss_one (ps_if (PW.pt (pw_and (pt_cmpR op_ge (pv 3) (pe_op op_pow pe_int pe_int) (nomark _)) (pw_and1 (pt_cmpR op_gt (pv 4) pe_int (nomark _))))) (pss_cons (ps_expr (pe_bm PySem.F.plainAttrs_list PySem.F.slot_list_append PySem.F.type_list_append mt_append (pv 5) (pa_cons (pe_op op_mod (pv 4) (pe_ix ix_list (pv 2) (pv 6) (fun _ _ => rfl))) pa_nil)))
 (pss_one (ps_set (i := 4) sc_numbers.nd rfl (Or.inl rfl) (pe_op op_fdivW (pv 4) (pe_ix ix_list (pv 2) (pv 6) (fun _ _ => rfl)))))) (pss_cons (ps_set (i := 7) sc_numbers.nd rfl (Or.inl rfl) (pe_op op_mod (pe_op op_pow (pe_op op_add (pe_op op_add (pe_op op_mod (pv 3) pe_int) (pe_op op_mul pe_int (pv 1))) pe_int) pe_int) pe_int))
 (pss_cons (ps_set (i := 7) sc_numbers.nd rfl (Or.inl rfl) (pe_op op_mod (pe_op op_mul (pe_op op_add (pv 7) (pe_op op_mul pe_int (pe_op op_add (pv 6) pe_int))) (pe_op op_add (pv 6) pe_int)) pe_int))
 (pss_cons (ps_set (i := 7) sc_numbers.nd rfl (Or.inl rfl) (pe_op op_mod (pe_op op_mul (pe_op op_mod (pe_op op_pow (pv 7) pe_int) pe_int) pe_int) pe_int))
 (pss_one (ps_expr (pe_bm PySem.F.plainAttrs_list PySem.F.slot_list_append PySem.F.type_list_append mt_append (pv 5) (pa_cons (pe_op op_mod (pe_op op_fdivW (pv 7) pe_int) (pe_ix ix_list (pv 2) (pv 6) (fun _ _ => rfl))) pa_nil))))))))))
 (pss_one (ps_ret (pv 5))))))), ?_⟩
    walk_at "wp"
    refine ⟨Nat.zero_le _, fun p hp => ?_⟩
    have hn0 : 0 ≤ (if -1 - c > c then -1 - c else c) := by split <;> omega
    generalize (if -1 - c > c then -1 - c else c) = n at hn0 ⊢
    refine ⟨_, hS.upd_ hp, by omega, by rw [List.length_map]; omega, ?_⟩
    rw [show (((zs.map V.int).length : Nat) : Int).toNat = zs.length by rw [List.length_map]; omega]
    refine LoopR.by walk_range (NumI H c s n a p zs) ⟨n, [], none, none, rfl, hn0, same_upd hp, upd_same, rfl, fun j f z e => by simp at e⟩ (fun _ _ _ _ _ => trivial) (fun i v σ H0 H' hi hI hY => ?_) (fun σ H' hI => ?_)
    · obtain ⟨l, fs, y6, y7, e, hl, sm, hf, hfl, hb⟩ := hI
      subst e
      obtain ⟨rfl, rfl⟩ := hY
      have g : zs[i]? = some zs[i] := List.getElem?_eq_getElem hi
      obtain ⟨hz0, hz1⟩ := hz _ (List.getElem_mem hi)
      generalize zs[i] = z at g hz0 hz1
      subst hfl
      have hA : SqL K H' a (zs.map V.int) := sm.seq hS
      have ga : atI (zs.map V.int) (0 + (fs.length : Int)) = some (.int z) := atI_map (by omega) (by rw [show (0 + (fs.length : Int)).toNat = fs.length by omega]; exact g)
      have sz : (fs.map V.int).length < sizeLine := sz100l (by rw [List.length_map]; omega)
      have hz9 : CDivW l z := wide_div hz0 hz1 (by decide) (by decide)
      walk_at "wp"
      refine ⟨⟨by decide, by decide, by decide⟩, ?_⟩
      have hB : ∀ o, SqL K (upd H' p o) a (zs.map V.int) := fun o => (same_mut sm hp).seq hS
      have p2 : NumI H c s n a p zs (fs.length + 1) [some (.int c), some (.int s), some (.ref a), some (.int n), some (.int (l / z)), some (.ref p), some (.int (0 + (fs.length : Int))), y7] (upd H' p (.lst (fs.map V.int ++ [.int (l % z)]))) :=
        NumI.next hp (Int.ediv_nonneg hl (by omega)) sm hb g (Int.emod_nonneg _ (by omega)) (Int.emod_lt_of_pos _ hz0)
      have p1 : ∀ (x : Int) (y7 : Option V), NumI H c s n a p zs (fs.length + 1) [some (.int c), some (.int s), some (.ref a), some (.int n), some (.int l), some (.ref p), some (.int (0 + (fs.length : Int))), y7] (upd H' p (.lst (fs.map V.int ++ [.int (x % z)]))) := fun x y7 =>
        NumI.next hp hl sm hb g (Int.emod_nonneg _ (by omega)) (Int.emod_lt_of_pos _ hz0)
      have m1 : 0 ≤ n % 2147483629 ∧ n % 2147483629 < 2147483629 := ⟨Int.emod_nonneg _ (by decide), Int.emod_lt_of_pos _ (by decide)⟩
      have m2 : ∀ x : Int, 0 ≤ x % 2147483629 ∧ x % 2147483629 < 2147483629 := fun x => ⟨Int.emod_nonneg _ (by decide), Int.emod_lt_of_pos _ (by decide)⟩
      have cp : ∀ x : Int, CPow (x % 2147483629) 5 := fun x => ⟨by decide, by decide, by have := m2 x; omega⟩
      have key : ∀ {R : Prop}, (∀ x : Int, ∃ xs v, SqL K H' a xs ∧ atI xs (0 + (fs.length : Int)) = some v ∧ R) → True := fun _ => trivial
      refine ite2 (fun _ => ite2 (fun _ => ?_) (fun _ => ?_)) (fun _ => ?_)
      · refine ⟨tyL (SqL.of hf), _, _, hA, ga, ?_⟩
        walk_at "wp"
        refine ⟨hz0, _, hf, sz, _, _, hB _, ga, ?_⟩
        walk_at "wp"
        exact ⟨hz9, p2⟩
      all_goals
        refine ⟨by decide, .inl ⟨by decide, by decide⟩, ⟨by decide, by decide, by omega⟩, by decide, .inl ⟨by decide, by decide⟩, .inr ⟨by omega, by omega⟩, by decide, cp _, by decide, .inr ⟨by decide, by decide⟩, by decide, tyL (SqL.of hf), wide_div (b := 10) (by decide) (by decide) (by decide) (by decide), _, _, hA, ga, ?_⟩
        walk_at "wp"
        exact ⟨hz0, _, hf, sz, p1 _ _⟩
    · obtain ⟨l, fs, y6, y7, e, hl, sm, hf, hfl, hb⟩ := hI
      subst e
      exact ⟨_, rfl, q H' p fs sm hp ⟨hfl, hb⟩ hf⟩
abbrev s_cell_at : Stmt := top 65
theorem sc_cell_at : FnScope ["_law_script", "_law_k"] ["_law_script", "_law_k"] (defScope s_cell_at) := ⟨rfl, rfl, rfl, by decide +kernel, rfl, by decide +kernel, by decide +kernel⟩
def spCellAt (K : PySem.W.Frag) : Sp := fun vs H Q _ => ∃ (a : Addr) (ns : List Int) (i : Nat), vs = [.ref a, .int (i : Int)] ∧ SqL K H a (ns.map V.int) ∧ ∀ c : Int, Q (.int c) H
theorem ok_cell_at {f : Addr} {fd : FuncData} (F : Fun K "_law_cell_at" "_law_cell_at" s_cell_at f fd) (B : Bi mg) : FnOk P w K mg base CX0 1 f fd ["_law_script", "_law_k"] (spCellAt K) := by
  refine F.ok sc_cell_at (fun vs H Q E h => ?_) (fun cdv A outer s H vs Q E hr h => ?_)
  · obtain ⟨a, ns, i, rfl, _⟩ := h
    rfl
  · obtain ⟨a, ns, i, rfl, hS, q⟩ := h
    refine ⟨_, (pss_cons (ps_if (pt_cmpR op_lt (pv 1) (pe_callB call_lnL (by rfl) B.len (by decide +kernel) (pa_cons (pv 0) pa_nil)) (nomark _)) (pss_one (ps_ret (pe_ix ix_list (pv 0) (pv 1) (fun _ _ => rfl)))) pss_nil)
 (pss_one (ps_ret pe_int))), ?_⟩
    walk_at "wp"
    refine ⟨_, hS, ite2 (fun h => ?_) (fun h => q _)⟩
    have hi : i < ns.length := by have := of_decide_eq_true h; rw [List.length_map] at this; omega
    exact ⟨_, _, hS, atI_map (by omega) (by rw [Int.toNat_natCast]; exact List.getElem?_eq_getElem hi), q _⟩
abbrev s_day : Stmt := top 67
theorem sc_day : FnScope ["_law_digits", "_law_late", "_law_want", "_law_light", "_law_loaf", "_law_keep", "_law_fine", "_law_none", "_law_far"] ["_law_digits", "_law_late"] (defScope s_day) := ⟨rfl, rfl, rfl, by decide +kernel, rfl, by decide +kernel, by decide +kernel⟩
def spDay (K : PySem.W.Frag) : Sp := fun vs H Q _ => ∃ (a : Addr) (fs zs : List Int) (late : Bool), vs = [.ref a, .bl late] ∧ SqL K H a (fs.map V.int) ∧ fs.length = 7 ∧ (∀ f ∈ fs, 0 ≤ f ∧ f ≤ 1000000000) ∧
  ∀ H' p t (d : Day) (l : Int), Same H H' → H p = none → H t = none → H' p = some (.tup [.int l, .ref t]) → H' t = some (.tup [.int d.want, .int d.loaf, .int d.keep, optV d.fine]) → numD (.int l) = true → dayB (dayD d) = true → Q (.ref p) H'
theorem numD_of {i : Int} (h : 0 ≤ i ∧ i ≤ 1000000000) : numD (.int i) = true := by
  simp only [numD, Bool.and_eq_true, decide_eq_true_eq]
  exact h
theorem ok_day {f : Addr} {fd : FuncData} (F : Fun K "_law_day" "_law_day" s_day f fd) : FnOk P w K mg base CX0 1 f fd ["_law_digits", "_law_late"] (spDay K) := by
  refine F.ok sc_day (fun vs H Q E h => ?_) (fun cdv A outer s H vs Q E hr h => ?_)
  · obtain ⟨a, fs, zs, late, rfl, _⟩ := h
    rfl
  · obtain ⟨a, fs, zs, late, rfl, hS, h7, hb, q⟩ := h
    refine ⟨_, (pss_cons (ps_asg (pv 0) (pg_unl rfl (pgs_cons (pg_name (i := 2) sc_day.nd rfl (Or.inl rfl)) (pgs_cons (pg_name (i := 3) sc_day.nd rfl (Or.inl rfl)) (pgs_cons (pg_name (i := 4) sc_day.nd rfl (Or.inl rfl)) (pgs_cons (pg_name (i := 5) sc_day.nd rfl (Or.inl rfl)) (pgs_cons (pg_name (i := 6) sc_day.nd rfl (Or.inl rfl)) (pgs_cons (pg_name (i := 7) sc_day.nd rfl (Or.inl rfl)) (pgs_cons (pg_name (i := 8) sc_day.nd rfl (Or.inl rfl)) pgs_nil)))))))))
 (pss_cons (ps_if (pt_cmpR op_eq (pv 7) pe_int (nomark _)) (pss_one (ps_set (i := 2) sc_day.nd rfl (Or.inl rfl) pe_int)) pss_nil)
 (pss_cons (ps_if (PW.pt (pw_or (pt_cmpR op_lt (pv 8) pe_int (nomark _)) (pw_or1 (pt_not (pt_val (pv 1)))))) (pss_one (ps_set (i := 6) sc_day.nd rfl (Or.inl rfl) pe_non)) pss_nil)
 (pss_one (ps_ret (pe_tup (pa_cons (pv 3) (pa_cons (pe_tup (pa_cons (pv 2) (pa_cons (pv 4) (pa_cons (pv 5) (pa_cons (pv 6) pa_nil))))) pa_nil)))))))), ?_⟩
    obtain ⟨w1, l1, f1, k1, n1, o1, r1, rfl⟩ := seven h7
    have b1 := hb w1 (by simp)
    have b2 := hb l1 (by simp)
    have b3 := hb f1 (by simp)
    have b4 := hb k1 (by simp)
    have b5 := hb n1 (by simp)
    have fin : ∀ (w2 : Int) (o : Option Int), (w2 = w1 ∨ w2 = 0) → (o = some n1 ∨ o = none) → ∀ p, H p = none → ∀ p2, upd H p (.tup [.int w2, .int f1, .int k1, optV o]) p2 = none → Q (.ref p2) (upd (upd H p (.tup [.int w2, .int f1, .int k1, optV o])) p2 (.tup [.int l1, .ref p])) := by
      intro w2 o hw ho p hp p2 hp2
      have s2 := same_upd (o := .tup [.int l1, .ref p]) hp2
      refine q _ p2 p ⟨w2, f1, k1, o⟩ l1 ((same_upd hp).trans s2) ((same_upd hp).free hp2) hp upd_same (s2 _ _ upd_same) (numD_of b2) ?_
      have e1 : numD (.int w2) = true := by
        rcases hw with e | e
        · rw [e]
          exact numD_of b1
        · rw [e]
          rfl
      have e2 : (noneB (optD o) || numD (optD o)) = true := by
        rcases ho with e | e
        · rw [e]
          show (false || numD (.int n1)) = true
          rw [numD_of b5]
          rfl
        · rw [e]
          rfl
      simp only [dayD, dayB, e1, e2, numD_of b3, numD_of b4, Bool.and_self]
    walk_at "wp"
    refine ⟨_, hS, rfl, ?_⟩
    walk_at "wp"
    refine ite2 (fun h1 => ite2 (fun h2 => ?_) (fun h2 => ite2 (fun h3 => ?_) (fun h3 => ?_))) (fun h1 => ite2 (fun h2 => ?_) (fun h2 => ite2 (fun h3 => ?_) (fun h3 => ?_)))
    · exact ⟨sz100 (by decide), fun p hp => ⟨sz100 (by decide), fun p2 hp2 => fin 0 none (.inr rfl) (.inr rfl) p hp p2 hp2⟩⟩
    · exact ⟨sz100 (by decide), fun p hp => ⟨sz100 (by decide), fun p2 hp2 => fin 0 none (.inr rfl) (.inr rfl) p hp p2 hp2⟩⟩
    · exact ⟨sz100 (by decide), fun p hp => ⟨sz100 (by decide), fun p2 hp2 => fin 0 (some n1) (.inr rfl) (.inl rfl) p hp p2 hp2⟩⟩
    · exact ⟨sz100 (by decide), fun p hp => ⟨sz100 (by decide), fun p2 hp2 => fin w1 none (.inl rfl) (.inr rfl) p hp p2 hp2⟩⟩
    · exact ⟨sz100 (by decide), fun p hp => ⟨sz100 (by decide), fun p2 hp2 => fin w1 none (.inl rfl) (.inr rfl) p hp p2 hp2⟩⟩
    · exact ⟨sz100 (by decide), fun p hp => ⟨sz100 (by decide), fun p2 hp2 => fin w1 (some n1) (.inl rfl) (.inl rfl) p hp p2 hp2⟩⟩
abbrev s_days : Stmt := top 68
theorem sc_days : FnScope ["_law_script", "_law_first", "_law_upto", "_law_salt", "_law_late", "_law_wide", "_law_sizes", "_law_lights", "_law_days_here", "_law_k", "_law_light", "_law_day_here"] ["_law_script", "_law_first", "_law_upto", "_law_salt", "_law_late"] (defScope s_days) := ⟨rfl, rfl, rfl, by decide +kernel, rfl, by decide +kernel, by decide +kernel⟩
def spDays (K : PySem.W.Frag) : Sp := fun vs H Q _ => ∃ (a : Addr) (ns : List Int) (u : Nat) (s : Int) (late : Bool), vs = [.ref a, .int 1, .int (u : Int), .int s, .bl late] ∧ SqL K H a (ns.map V.int) ∧ ns.length ≤ 1000 ∧ u ≤ 41 ∧ 0 ≤ s ∧ s ≤ 100000 ∧
  ∀ (H' : Hp) (p l d : Addr) (ls : List Int) (ds : List Day), Same H H' → H p = none → H' p = some (.tup [.ref l, .ref d]) → Tk (newOf H H') (.ref l) (.list (ls.map PyData.int)) → Tk (newOf H H') (.ref d) (.list (ds.map dayD)) → ls.length = nDays u ns.length → ds.length = nDays u ns.length →
    (∀ z ∈ ls, numD (.int z) = true) → (∀ z ∈ ds, dayB (dayD z) = true) → Q (.ref p) H'
structure DaysI (K : PySem.W.Frag) (H H0 : Hp) (a sz L D : Addr) (u : Nat) (s : Int) (late wide : Bool) (i : Nat) (σ : L2.St) (H' : Hp) : Prop where
  ex : ∃ (ls : List Int) (ds : List Day) (xs : List V) (y9 y10 y11 : Option V), σ = [some (.ref a), some (.int 1), some (.int (u : Int)), some (.int s), some (.bl late), some (.bl wide), some (.ref sz), some (.ref L), some (.ref D), y9, y10, y11] ∧
    Same H0 H' ∧ H' L = some (.lst (ls.map V.int)) ∧ H' D = some (.lst xs) ∧ TkAll (newBut H L D H') xs (ds.map dayD) ∧ ls.length = i ∧ ds.length = i ∧ (∀ z ∈ ls, numD (.int z) = true) ∧ (∀ z ∈ ds, dayB (dayD z) = true)
theorem ok_days {f : Addr} {fd : FuncData} (F : Fun K "_law_days" "_law_days" s_days f fd) (B : Bi mg) (D_numbers : Def P w K mg base "_law_numbers" 1 ["_law_cell", "_law_salt", "_law_sizes"] (spNumbers K)) (D_cell_at : Def P w K mg base "_law_cell_at" 1 ["_law_script", "_law_k"] (spCellAt K)) (D_day : Def P w K mg base "_law_day" 1 ["_law_digits", "_law_late"] (spDay K)) :
    FnOk P w K mg base CX0 2 f fd ["_law_script", "_law_first", "_law_upto", "_law_salt", "_law_late"] (spDays K) := by
  refine F.ok sc_days (fun vs H Q E h => ?_) (fun cdv A outer s H vs Q E hr h => ?_)
  · obtain ⟨a, ns, u, s, late, rfl, _⟩ := h
    rfl
  · obtain ⟨a, ns, u, s, late, rfl, hS, hn, hu, hs0, hs1, q⟩ := h
    refine ⟨_, (pss_cons (ps_set (i := 5) sc_days.nd rfl (Or.inl rfl) (pe_cmpR op_eq (pe_ix ix_list (pe_callD D_numbers hr (by rfl) (pa_cons (pe_callD D_cell_at hr (by rfl) (pa_cons (pv 0) (pa_cons pe_int pa_nil))) (pa_cons (pv 3) (pa_cons (pe_lst (pa_cons pe_int pa_nil)) pa_nil)))) pe_int (fun _ _ => rfl)) pe_int (nomark _)))
 (pss_cons (ps_set (i := 6) sc_days.nd rfl (Or.inl rfl) (pe_op op_cat (pe_ix ix_list (pe_lst (pa_cons (pe_lst (pa_cons pe_int (pa_cons pe_int (pa_cons pe_int (pa_cons pe_int (pa_cons pe_int pa_nil)))))) (pa_cons (pe_op op_rep (pe_lst (pa_cons (pe_op op_add (pe_op op_pow pe_int pe_int) pe_int) pa_nil)) pe_int) pa_nil))) (pe_callTy call_in1 (by rfl) B.int (by decide +kernel) (pa_cons (pv 5) pa_nil)) (fun _ _ => rfl)) (pe_lst (pa_cons pe_int (pa_cons pe_int pa_nil)))))
 (pss_cons (ps_set (i := 7) sc_days.nd rfl (Or.inl rfl) (pe_lst pa_nil))
 (pss_cons (ps_set (i := 8) sc_days.nd rfl (Or.inl rfl) (pe_lst pa_nil))
 (pss_cons (ps_for PassesOwn.never rfl (pi_range2 (by rfl) B.range (pa_cons (pv 1) (pa_cons (pe_callB (call_mx rfl) (by rfl) B.max (by decide +kernel) (pa_cons (pe_op op_add (pv 1) pe_int) (pa_cons (pe_callB (call_mn rfl) (by rfl) B.min (by decide +kernel) (pa_cons (pv 2) (pa_cons (pe_callB call_lnL (by rfl) B.len (by decide +kernel) (pa_cons (pv 0) pa_nil)) pa_nil))) pa_nil))) pa_nil))) (pg_name (i := 9) sc_days.nd rfl (Or.inl rfl)) (pss_cons (ps_asg (pe_callD D_day hr (by rfl) (pa_cons (pe_callD D_numbers hr (by rfl) (pa_cons (pe_callD D_cell_at hr (by rfl) (pa_cons (pv 0) (pa_cons (pv 9) pa_nil))) (pa_cons (pe_op op_add (pv 3) (pv 9)) (pa_cons (pv 6) pa_nil)))) (pa_cons (pv 4) pa_nil))) (pg_tup rfl (pgs_cons (pg_name (i := 10) sc_days.nd rfl (Or.inl rfl)) (pgs_cons (pg_name (i := 11) sc_days.nd rfl (Or.inl rfl)) pgs_nil))))
 (pss_cons (ps_expr (pe_bm PySem.F.plainAttrs_list PySem.F.slot_list_append PySem.F.type_list_append mt_append (pv 7) (pa_cons (pv 10) pa_nil)))
 (pss_one (ps_expr (pe_bm PySem.F.plainAttrs_list PySem.F.slot_list_append PySem.F.type_list_append mt_append (pv 8) (pa_cons (pv 11) pa_nil)))))))
 (pss_one (ps_ret (pe_tup (pa_cons (pv 7) (pa_cons (pv 8) pa_nil)))))))))), ?_⟩
    walk_at "wp"
    refine ⟨a, ns, 0, rfl, hS, fun c => ⟨sz100 (by decide), fun p1 h1 => ?_⟩⟩
    refine ⟨c, s, p1, [3], rfl, SqL.of upd_same, hs0, by omega, by decide, by decide, fun H1 pd fs S1 hpd hD hfs => ?_⟩
    have S1 := (same_upd h1).trans S1
    obtain ⟨f0, rfl⟩ : ∃ f0, fs = [f0] := by
      match fs, hD.1 with
      | [f0], _ => exact ⟨f0, rfl⟩
    walk_at "wp"
    refine ⟨_, _, SqL.of hfs, atI_nat (j := 0) rfl, ?_⟩
    walk_at "wp"
    generalize decide (f0 = 0) = wide
    refine ⟨sz100 (by decide), fun p2 h2 => ⟨⟨by decide, by decide, by decide⟩, sz100 (by decide), fun p3 h3 => ?_⟩⟩
    have S2 := same_upd (o := .lst [V.int 5, V.int 13, V.int 6, V.int 4, V.int 4]) h2
    have E2 : upd H1 p2 (.lst [V.int 5, V.int 13, V.int 6, V.int 4, V.int 4]) p2 = some (.lst ([5, 13, 6, 4, 4].map V.int)) := upd_same
    generalize upd H1 p2 (.lst [V.int 5, V.int 13, V.int 6, V.int 4, V.int 4]) = H2 at S2 E2 h3 ⊢
    have S3 := same_upd (o := .lst [V.int (10 ^ Int.toNat 9 + 1)]) h3
    have E3 : upd H2 p3 (.lst [V.int (10 ^ Int.toNat 9 + 1)]) p3 = some (.lst [V.int (10 ^ Int.toNat 9 + 1)]) := upd_same
    generalize upd H2 p3 (.lst [V.int (10 ^ Int.toNat 9 + 1)]) = H3 at S3 E3 ⊢
    refine ⟨_, E3, by decide, by decide, sz100 (by show 1 * 5 ≤ 100000; decide), fun p4 h4 => ⟨sz100 (by decide), fun p5 h5 => ?_⟩⟩
    have S4 := same_upd (o := .lst (List.replicate (Int.toNat 5) [V.int (10 ^ Int.toNat 9 + 1)]).flatten) h4
    have E4 : upd H3 p4 (.lst (List.replicate (Int.toNat 5) [V.int (10 ^ Int.toNat 9 + 1)]).flatten) p4 = some (.lst ([1000000001, 1000000001, 1000000001, 1000000001, 1000000001].map V.int)) := upd_same
    generalize upd H3 p4 (.lst (List.replicate (Int.toNat 5) [V.int (10 ^ Int.toNat 9 + 1)]).flatten) = H4 at S4 E4 h5 ⊢
    have S5 := same_upd (o := .lst [V.ref p2, V.ref p4]) h5
    have E5 : upd H4 p5 (.lst [V.ref p2, V.ref p4]) p5 = some (.lst [V.ref p2, V.ref p4]) := upd_same
    generalize upd H4 p5 (.lst [V.ref p2, V.ref p4]) = H5 at S5 E5 ⊢
    have hpick : ∃ (pz : Addr) (z5 : List Int), atI [V.ref p2, V.ref p4] (if wide = true then 1 else 0) = some (V.ref pz) ∧ H5 pz = some (.lst (z5.map V.int)) ∧ z5.length = 5 ∧ ∀ z ∈ z5, 0 < z ∧ z ≤ 1000000001 := by
      cases wide with
      | false => exact ⟨p2, _, rfl, (S3.trans (S4.trans S5)) _ _ E2, rfl, by decide⟩
      | true => exact ⟨p4, _, rfl, S5 _ _ E4, rfl, by decide⟩
    obtain ⟨pz, z5, hz1, hz2, hz3, hz4⟩ := hpick
    refine ⟨_, _, SqL.of E5, hz1, sz100 (by decide), fun p6 h6 => ?_⟩
    have S6 := same_upd (o := .lst [V.int 4, V.int 5]) h6
    have E6 : upd H5 p6 (.lst [V.int 4, V.int 5]) p6 = some (.lst [V.int 4, V.int 5]) := upd_same
    generalize upd H5 p6 (.lst [V.int 4, V.int 5]) = H6 at S6 E6 ⊢
    walk_at "wp"
    refine ⟨_, _, S6 _ _ hz2, E6, sz100 (by rw [List.length_map, hz3]; decide), fun p7 h7 => ?_⟩
    have S7 := same_upd (o := .lst (z5.map V.int ++ [V.int 4, V.int 5])) h7
    have E7 : upd H6 p7 (.lst (z5.map V.int ++ [V.int 4, V.int 5])) p7 = some (.lst ((z5 ++ [4, 5]).map V.int)) := by rw [upd_same, List.map_append]; rfl
    generalize upd H6 p7 (.lst (z5.map V.int ++ [V.int 4, V.int 5])) = H7 at S7 E7 ⊢
    have hz5 : ∀ z ∈ z5 ++ [4, 5], 0 < z ∧ z ≤ 1000000001 := by
      intro z hz
      rcases List.mem_append.mp hz with h | h
      · exact hz4 z h
      · have : z = 4 ∨ z = 5 := by simpa using h
        omega
    have hz6 : (z5 ++ [4, 5]).length = 7 := by rw [List.length_append, hz3]; rfl
    generalize z5 ++ [4, 5] = szs at E7 hz5 hz6
    have SA : Same H H7 := S1.trans (S2.trans (S3.trans (S4.trans (S5.trans (S6.trans S7)))))
    clear S1 S2 S3 S4 S5 S6 S7 E2 E3 E4 E5 E6 hz1 hz2 hz3 hz4 h1 h2 h3 h4 h5 h6 h7 hpd hfs hD
    refine ⟨Nat.zero_le _, fun L hL => ⟨Nat.zero_le _, fun D hD => ?_⟩⟩
    have hLD : L ≠ D := fun z => by rw [z, upd_same] at hD; cases hD
    have hD0 : H7 D = none := (same_upd hL).free hD
    have SB : Same H7 (upd (upd H7 L (.lst [])) D (.lst [])) := (same_upd hL).trans (same_upd hD)
    have EL : upd (upd H7 L (.lst [])) D (.lst []) L = some (.lst []) := by rw [upd_ne hLD, upd_same]
    have ED : upd (upd H7 L (.lst [])) D (.lst []) D = some (.lst []) := upd_same
    generalize upd (upd H7 L (.lst [])) D (.lst []) = H8 at SB EL ED ⊢
    refine ⟨_, (SA.trans SB).seq hS, ⟨by decide, by decide, by omega, ?_⟩, ?_⟩
    · rw [List.length_map]
      split <;> split <;> omega
    · rw [List.length_map, show ((if (if (ns.length : Int) < (u : Int) then (ns.length : Int) else (u : Int)) > 1 + 1 then (if (ns.length : Int) < (u : Int) then (ns.length : Int) else (u : Int)) else 1 + 1) - 1).toNat = nDays u ns.length by unfold nDays; split <;> split <;> omega]
      refine LoopR.by walk_range (DaysI K H H7 a p7 L D u s late wide) ⟨⟨[], [], [], none, none, none, rfl, SB, EL, ED, .nil, rfl, rfl, (by intro _ h; cases h), (by intro _ h; cases h)⟩⟩ (fun _ _ _ _ _ => trivial) (fun i v σ H0 H' hi hI hY => ?_) (fun σ H' hI => ?_)
      · obtain ⟨rfl, rfl⟩ := hY
        obtain ⟨ls, ds, xs, y9, y10, y11, rfl, S9, E9, E10, hT, hll, hdl, hlb, hdb⟩ := hI.ex
        have hi40 : (i : Int) < 41 := by unfold nDays at hi; omega
        walk_at "wp"
        refine ⟨a, ns, 1 + i, congrArg (fun z => [V.ref a, V.int z]) (by omega), (SA.trans S9).seq hS, fun c => ?_⟩
        refine ⟨c, s + (1 + (i : Int)), p7, szs, rfl, S9.seq (SqL.of E7), by omega, by omega, by omega, fun z hz => ⟨(hz5 z hz).1, ?_⟩, fun H9 pd fs T1 hpd hDg hfs => ?_⟩
        · have := hz5 z hz
          exact Nat.lt_of_le_of_lt (show z.natAbs ≤ 1000000001 by omega) (by decide)
        refine ⟨pd, fs, [], late, rfl, SqL.of hfs, hDg.1.trans hz6, fun f hf => ?_, fun HA p t d l T2 hp ht Ep Et hl hd => ?_⟩
        · obtain ⟨j, hj, e⟩ := List.getElem_of_mem hf
          have h1 : j < szs.length := by rw [← hDg.1]; exact hj
          have h2 := hDg.2 j f szs[j] (by rw [List.getElem?_eq_getElem hj, e]) (List.getElem?_eq_getElem h1)
          have h3 := hz5 _ (List.getElem_mem h1)
          omega
        have T3 := T1.trans T2
        have EL2 := T3 _ _ E9
        have ED2 := T3 _ _ E10
        walk_at "wp"
        refine ⟨_, SqT.of Ep, rfl, ?_⟩
        walk_at "wp"
        have ED3 : upd HA L (.lst (ls.map V.int ++ [V.int l])) D = some (.lst xs) := by rw [upd_ne hLD.symm]; exact ED2
        have szl : (ls.map V.int).length < sizeLine := sz100l (by rw [List.length_map, hll]; omega)
        have szd : xs.length < sizeLine := sz100l (by rw [hT.length, List.length_map, hdl]; omega)
        refine ⟨tyL (SqL.of EL2), _, EL2, szl, tyL (SqL.of ED3), _, ED3, szd, ⟨ls ++ [l], ds ++ [d], _, _, _, _, rfl, ?_, ?_, upd_same, ?_, ?_, ?_, ?_, ?_⟩⟩
        · exact same_mut (same_mut (S9.trans T3) hL) hD0
        · rw [upd_ne hLD, upd_same, List.map_append]
          rfl
        · have htL : t ≠ L := ne_of Et EL2 (by intro z; cases z)
          have htD : t ≠ D := ne_of Et ED2 (by intro z; cases z)
          have hnt : H t = none := ((SA.trans S9).trans T1).free ht
          rw [List.map_append]
          refine (hT.same (newBut_mono fun b o h1 h2 e => ?_)).append (.cons ?_ .nil)
          · rw [upd_ne h2, upd_ne h1]
            exact T3 _ _ e
          · have e : newBut H L D (upd (upd HA L (.lst (ls.map V.int ++ [V.int l]))) D (.lst (xs ++ [V.ref t]))) t = some (.tup [.int d.want, .int d.loaf, .int d.keep, optV d.fine]) := newBut_at hnt htL htD (by rw [upd_ne htD, upd_ne htL]; exact Et)
            exact .tup e (.cons (.int _) (.cons (.int _) (.cons (.int _) (.cons (Tk.optV _) .nil))))
        · rw [List.length_append, hll]
          rfl
        · rw [List.length_append, hdl]
          rfl
        · intro z hz
          rcases List.mem_append.mp hz with h | h
          · exact hlb z h
          · rw [List.mem_singleton.mp h]
            exact hl
        · intro z hz
          rcases List.mem_append.mp hz with h | h
          · exact hdb z h
          · rw [List.mem_singleton.mp h]
            exact hd
      · obtain ⟨ls, ds, xs, y9, y10, y11, rfl, S9, E9, E10, hT, hll, hdl, hlb, hdb⟩ := hI.ex
        walk_at "wp"
        refine ⟨sz100 (by decide), fun p hp => ?_⟩
        have SP := same_upd (o := .tup [V.ref L, V.ref D]) hp
        have hL0 : H L = none := SA.free hL
        have hDn : H D = none := SA.free hD0
        refine q _ p L D ls ds ((SA.trans S9).trans SP) ((SA.trans S9).free hp) upd_same ?_ ?_ hll hdl hlb hdb
        · exact .lst (newOf_at hL0 (SP _ _ E9)) (TkAll.ints ls)
        · exact .lst (newOf_at hDn (SP _ _ E10)) (hT.same ((newBut_same _ _ _ _).trans (newOf_mono SP)))
end
end Bk

namespace Bk
open PySem PySem.Spec PyProof.Rows L2
local macro_rules | `(tactic| walk_at "wp") => `(tactic| try simp only [Int.zero_add, tNever, tFor_eq, tLc_eq, iList, iTup, iRng1_eq, rRng1_i, iRng2_eq, rRng2_i, iEnum_eq, rEnum_r, iZip_eq, rZip_r, tSl, tPart, tNoPart, rSlL_r, rCat_r, rIn_r, rNin_r, rRepr_r, rRg1_i, rRg2_i, rInr_r, tAug, ipI_ii, tLstRg, tRg1, tRg2, gTup_r, gUnl_r, rInt1_b, rInt1_i, rRep_r, tStep_r, scal, tSeq, tNext, tAsg, tRet, tRetN, tIfS, tDrop, tCB, tCons, tNil, tVar, tOp, tUn, tC, rU_i, rI_ii, rI0_ii, rEq, rNe, tTest, tB, tAnd, tOr, tNot, tAndV, tOrV, tNotV, tIf, tChain, tLst, tTup, tBM, tBM0, rAppend_r, rIxL_r, rIxT_r, rMx_ii, rMn_ii, rLnL_r, rLnT_r, rIsD_int, rIsD_bool, rIsD_list, rIsD_tuple, tCall, gName, gNil_n, gCons_c, cxK, L2.start, List.map, List.replicate, List.length_cons, List.length_nil, List.cons_append, List.nil_append, List.append_nil, List.getElem?_cons_zero, List.getElem?_cons_succ, Option.some.injEq, exists_eq_left', exists_eq_left, V.int.injEq, V.bl.injEq, V.str.injEq, V.ref.injEq, List.cons.injEq, and_true, true_and, and_self, List.set, wipe, rAll_r, rSum_r, reduceCtorEq, decide_true, decide_false, reduceIte, ite_true, ite_false, if_true, if_false, Bool.false_eq_true, Bool.not_true, Bool.not_false])
local macro_rules | `(tactic| walk_at "shaped") => `(tactic| (simp only [SeqAt.shaped, PyData.canLay0, PyData.canLayAll0, PyData.depth, PyData.depthAll]; rfl))
local macro_rules | `(tactic| walk_at "lay") => `(tactic| (simp only [PyData.canLay0, PyData.canLayAll0]; rfl))
section
variable {P : Program} {w : World} {K : PySem.W.Frag} {mg : Str → Option Value} {base : Heap}
abbrev s_wanted_price : Stmt := top 30
theorem sc_wanted_price : FnScope ["good", "baked", "given", "days", "life", "want", "each"] ["good", "baked", "given"] (defScope s_wanted_price) := ⟨rfl, rfl, rfl, by decide +kernel, rfl, by decide +kernel, by decide +kernel⟩
def okDays (g : Good) : Prop := ∀ d ∈ g.days, dayB (dayD d) = true
theorem want_ok {g : Good} (h : okDays g) {d : Day} (hd : d ∈ g.days) : 0 ≤ d.want ∧ d.want ≤ 1000000000 := by
  have k := h d hd
  simp only [dayD, dayB, Bool.and_eq_true] at k
  have k := k.1.1.1
  simp only [numD, Bool.and_eq_true, decide_eq_true_eq] at k
  exact k
def spWanted (K : PySem.W.Frag) : Sp := fun vs H Q _ => ∃ x g, ∃ j k : Nat, vs = [x, .int (j : Int), .int (k : Int)] ∧ Th K H x (goodD g) ∧ okDays g ∧ g.days.length ≤ 1000 ∧ j < g.days.length ∧ k < g.days.length ∧ ∀ H', Same H H' → Q (optV (wantP g j k)) H'
theorem ok_wanted_price {f : Addr} {fd : FuncData} (F : Fun K "wanted_price" "wanted_price" s_wanted_price f fd) (D_loaf_price : Def P w K mg base "loaf_price" 2 ["good", "baked", "given"] (spLoafP K)) : FnOk P w K mg base CX0 3 f fd ["good", "baked", "given"] (spWanted K) := by
  refine F.ok sc_wanted_price (fun vs H Q E h => ?_) (fun cdv A outer s H vs Q E hr h => ?_)
  · obtain ⟨x, g, j, k, rfl, _⟩ := h
    rfl
  · obtain ⟨x, g, j, k, rfl, hx, hok, hl, hj, hk, q⟩ := h
    refine ⟨_, (pss_cons (ps_asg (pv 0) (pg_tup rfl (pgs_cons (pg_name (i := 3) sc_wanted_price.nd rfl (Or.inl rfl)) (pgs_cons (pg_name (i := 4) sc_wanted_price.nd rfl (Or.inl rfl)) pgs_nil))))
 (pss_cons (ps_set (i := 5) sc_wanted_price.nd rfl (Or.inl rfl) (pe_ix ix_tup (pe_ix ix_list (pv 3) (pv 2) (fun _ _ => rfl)) pe_int (fun _ _ => rfl)))
 (pss_cons (ps_if (pt_cmpR op_eq (pv 5) pe_int (nomark _)) (pss_one (ps_ret pe_int)) pss_nil)
 (pss_cons (ps_set (i := 6) sc_wanted_price.nd rfl (Or.inl rfl) (pe_callD D_loaf_price hr (by rfl) (pa_cons (pv 0) (pa_cons (pv 1) (pa_cons (pv 2) pa_nil)))))
 (pss_one (ps_ret (pe_ifExp (pt_cmpR op_isN (pv 6) pe_non (nomark _)) pe_non (pe_op op_mul (pv 5) (pv 6))))))))), ?_⟩
    obtain ⟨t, a, xs, rfl, ht, hs, ha⟩ := hx.good
    have hd : g.days[k]? = some g.days[k] := List.getElem?_eq_getElem hk
    have hw := want_ok hok (List.getElem_mem hk)
    generalize g.days[k] = d at hd hw
    obtain ⟨v, hv, hvd⟩ := ha.get' (i := k) (d := dayD d) (by rw [List.getElem?_map, hd]; rfl)
    obtain ⟨t2, rfl, ht2⟩ := hvd.day
    walk_at "wp"
    refine ⟨_, ht, rfl, ?_⟩
    walk_at "wp"
    refine ⟨_, _, hs, atI_nat hv, ?_⟩
    walk_at "wp"
    refine ⟨_, _, ht2, atI_nat (j := 0) rfl, ?_⟩
    have q1 := fun H1 s1 => q H1 s1
    simp only [wantP, hd] at q1
    walk_at "wp"
    refine ite2 (fun h => ?_) (fun h => ?_)
    · have e : d.want = 0 := of_decide_eq_true h
      have := q1 H (Same.refl _)
      rw [if_pos e] at this
      exact this
    · have e : ¬ d.want = 0 := fun z => h (decide_eq_true z)
      refine ⟨_, g, j, k, rfl, hx, hl, hj, fun H1 s1 => ?_⟩
      have q2 := q1 H1 s1
      rw [if_neg e] at q2
      cases hp : loafP g j k with
      | none =>
        rw [hp] at q2
        simp only [optV]
        walk_at "wp"
        exact q2
      | some z =>
        rw [hp] at q2
        simp only [optV]
        walk_at "wp"
        exact ⟨.inl ⟨by omega, by omega⟩, q2⟩
end
end Bk

namespace Bk
open PySem PySem.Spec PyProof.Rows L2
local macro_rules | `(tactic| walk_at "wp") => `(tactic| try simp only [Int.zero_add, tNever, tFor_eq, tLc_eq, iList, iTup, iRng1_eq, rRng1_i, iRng2_eq, rRng2_i, iEnum_eq, rEnum_r, iZip_eq, rZip_r, tSl, tPart, tNoPart, rSlL_r, rCat_r, rIn_r, rNin_r, rRepr_r, iRevR, rMin_r, rRg1_i, rRg2_i, rInr_r, tAug, ipI_ii, tLstRg, tRg1, tRg2, gTup_r, gUnl_r, rInt1_b, rInt1_i, rRep_r, tStep_r, scal, tSeq, tNext, tAsg, tRet, tRetN, tIfS, tDrop, tCB, tCons, tNil, tVar, tOp, tUn, tC, rU_i, rI_ii, rI0_ii, rEq, rNe, tTest, tB, tAnd, tOr, tNot, tAndV, tOrV, tNotV, tIf, tChain, tLst, tTup, tBM, tBM0, rAppend_r, rIxL_r, rIxT_r, rMx_ii, rMn_ii, rLnL_r, rLnT_r, rIsD_int, rIsD_bool, rIsD_list, rIsD_tuple, tCall, gName, gNil_n, gCons_c, cxK, L2.start, List.map, List.replicate, List.length_cons, List.length_nil, List.cons_append, List.nil_append, List.append_nil, List.getElem?_cons_zero, List.getElem?_cons_succ, Option.some.injEq, exists_eq_left', exists_eq_left, V.int.injEq, V.bl.injEq, V.str.injEq, V.ref.injEq, List.cons.injEq, and_true, true_and, and_self, List.set, wipe, rAll_r, rSum_r, reduceCtorEq, decide_true, decide_false, reduceIte, ite_true, ite_false, if_true, if_false, Bool.false_eq_true, Bool.not_true, Bool.not_false])
local macro_rules | `(tactic| walk_at "shaped") => `(tactic| (simp only [SeqAt.shaped, PyData.canLay0, PyData.canLayAll0, PyData.depth, PyData.depthAll]; rfl))
local macro_rules | `(tactic| walk_at "lay") => `(tactic| (simp only [PyData.canLay0, PyData.canLayAll0]; rfl))
section
variable {P : Program} {w : World} {K : PySem.W.Frag} {mg : Str → Option Value} {base : Heap}
abbrev s_is_plain : Stmt := top 24
theorem sc_is_plain : FnScope ["bakery", "lights", "bound", "goods"] ["bakery"] (defScope s_is_plain) := ⟨rfl, rfl, rfl, by decide +kernel, rfl, by decide +kernel, by decide +kernel⟩
def spPlain (K : PySem.W.Frag) (r : V) : Sp := fun vs H Q _ => ∃ x b, vs = [x] ∧ Th K H x (bakD b) ∧ bakB (bakD b) = true ∧ b.bound = none ∧ b.goods.length = 1 ∧ ∀ H', Same H H' → Q r H'
theorem ok_is_plain {f : Addr} {fd : FuncData} (F : Fun K "is_plain" "is_plain" s_is_plain f fd) (B : Bi mg) (D_look_at_bakery : Def P w K mg base "look_at_bakery" 6 ["thing"] (spLook K)) : FnOk P w K mg base CX0 7 f fd ["bakery"] (spPlain K (.bl true)) := by
  refine F.ok sc_is_plain (fun vs H Q E h => ?_) (fun cdv A outer s H vs Q E hr h => ?_)
  · obtain ⟨x, b, rfl, _⟩ := h
    rfl
  · obtain ⟨x, b, rfl, hx, hb, hbo, hg, q⟩ := h
    refine ⟨_, (pss_cons (ps_expr (pe_callD D_look_at_bakery hr (by rfl) (pa_cons (pv 0) pa_nil)))
 (pss_cons (ps_asg (pv 0) (pg_tup rfl (pgs_cons (pg_name (i := 1) sc_is_plain.nd rfl (Or.inl rfl)) (pgs_cons (pg_name (i := 2) sc_is_plain.nd rfl (Or.inl rfl)) (pgs_cons (pg_name (i := 3) sc_is_plain.nd rfl (Or.inl rfl)) pgs_nil)))))
 (pss_one (ps_ret (pe_and (pe_cmpR op_isN (pv 2) pe_non (nomark _)) (pe_one (pe_cmpR op_eq (pe_callB call_lnL (by rfl) B.len (by decide +kernel) (pa_cons (pv 3) pa_nil)) pe_int (nomark _)))))))), ?_⟩
    walk_at "wp"
    refine ⟨_, _, rfl, hx, hb, fun H1 s1 => ?_⟩
    obtain ⟨a, l, v2, ga, xl, xg, rfl, ht, hl, hla, h2, hgl, hga⟩ := Th.bak (hx.same s1)
    have e2 := h2.opt
    rw [hbo] at e2
    have e2 : v2 = .non := e2
    subst e2
    walk_at "wp"
    refine ⟨_, ht, rfl, ?_⟩
    walk_at "wp"
    refine ⟨_, hgl, ?_⟩
    have hn := hga.length
    rw [List.length_map] at hn
    rw [hn, hg]
    exact q _ s1
abbrev s_look_at_plain : Stmt := top 25
theorem sc_look_at_plain : FnScope ["bakery"] ["bakery"] (defScope s_look_at_plain) := ⟨rfl, rfl, rfl, by decide +kernel, rfl, by decide +kernel, by decide +kernel⟩
theorem ok_look_at_plain {f : Addr} {fd : FuncData} (F : Fun K "look_at_plain" "look_at_plain" s_look_at_plain f fd) (D_is_plain : Def P w K mg base "is_plain" 7 ["bakery"] (spPlain K (.bl true))) : FnOk P w K mg base CX0 8 f fd ["bakery"] (spPlain K .non) := by
  refine F.ok sc_look_at_plain (fun vs H Q E h => ?_) (fun cdv A outer s H vs Q E hr h => ?_)
  · obtain ⟨x, b, rfl, _⟩ := h
    rfl
  · obtain ⟨x, b, rfl, hx, hb, hbo, hg, q⟩ := h
    refine ⟨_, (pss_one (ps_if (pt_not (pt_val (pe_callD D_is_plain hr (by rfl) (pa_cons (pv 0) pa_nil)))) (pss_one ps_never) pss_nil)), ?_⟩
    walk_at "wp"
    refine ⟨_, _, rfl, hx, hb, hbo, hg, fun H1 s1 => ?_⟩
    walk_at "wp"
    exact q _ s1
abbrev s_least_baked_on : Stmt := top 33
theorem sc_least_baked_on : FnScope ["row", "light", "prices", "many", "least", "cost", "first"] ["row", "light", "prices", "many"] (defScope s_least_baked_on) := ⟨rfl, rfl, rfl, by decide +kernel, rfl, by decide +kernel, by decide +kernel⟩
def spLbo (K : PySem.W.Frag) : Sp := fun vs H Q _ => ∃ (ra pa : Addr) (xs ys : List V) (row : Nat → Int) (wf : Nat → Option Int) (light : Int) (m : Nat), vs = [.ref ra, .int light, .ref pa, .int (m : Int)] ∧ SqL K H ra xs ∧ SqL K H pa ys ∧ (∀ i, i < m → xs[i]? = some (.int (row i))) ∧ (∀ i, i < m → ys[i]? = some (optV (wf i))) ∧ m ≤ 1000 ∧ Q (optV (lbo row wf m light none)) H
def LbI (ra pa : Addr) (light : Int) (row : Nat → Int) (wf : Nat → Option Int) (m : Nat) (H : Hp) (i : Nat) (σ : L2.St) (H' : Hp) : Prop := H' = H ∧ ∃ (c : Int) (l : Option Int) (y : Option V), σ = [some (.ref ra), some (.int light), some (.ref pa), some (.int (m : Int)), some (optV l), some (.int c), y] ∧ lbo row wf (m - i) c l = lbo row wf m light none
theorem ok_least_baked_on {f : Addr} {fd : FuncData} (F : Fun K "least_baked_on" "least_baked_on" s_least_baked_on f fd) (B : Bi mg) (Br : mg "reversed" = none) : FnOk P w K mg base CX0 1 f fd ["row", "light", "prices", "many"] (spLbo K) := by
  refine F.ok sc_least_baked_on (fun vs H Q E h => ?_) (fun cdv A outer s H vs Q E hr h => ?_)
  · obtain ⟨_, _, _, _, _, _, _, _, rfl, _⟩ := h
    rfl
  · obtain ⟨ra, pa, xs, ys, row, wf, light, m, rfl, hra, hpa, hx, hy, hm, q⟩ := h
    refine ⟨_, (pss_cons (ps_set (i := 4) sc_least_baked_on.nd rfl (Or.inl rfl) pe_non)
 (pss_cons (ps_set (i := 5) sc_least_baked_on.nd rfl (Or.inl rfl) (pv 1))
 (pss_cons (ps_for PassesOwn.never rfl (pi_revR (by rfl) Br (prg_1 (by rfl) B.range (pv 3))) (pg_name (i := 6) sc_least_baked_on.nd rfl (Or.inl rfl)) (pss_cons (ps_if (pt_cmpR op_isN (pe_ix ix_list (pv 2) (pv 6) (fun _ _ => rfl)) pe_non (nomark _)) (pss_one (ps_ret (pv 4))) pss_nil)
 (pss_cons (ps_aug (i := 5) sc_least_baked_on.nd rfl (Or.inl rfl) (pe_ix ix_list (pv 2) (pv 6) (fun _ _ => rfl)) ip_add)
 (pss_one (ps_if (PW.pt (pw_or (pt_cmpR op_isN (pv 4) pe_non (nomark _)) (pw_or1 (pt_cmpR op_lt (pe_op op_add (pe_ix ix_list (pv 0) (pv 6) (fun _ _ => rfl)) (pv 5)) (pv 4) (nomark _))))) (pss_one (ps_set (i := 4) sc_least_baked_on.nd rfl (Or.inl rfl) (pe_op op_add (pe_ix ix_list (pv 0) (pv 6) (fun _ _ => rfl)) (pv 5)))) pss_nil)))))
 (pss_one (ps_ret (pv 4)))))), ?_⟩
    walk_at "wp"
    refine ⟨by omega, by omega, by omega, by omega, ?_⟩
    rw [show ((m : Int) - 0).toNat = m by omega]
    refine LoopR.by walk_rangeC (LbI ra pa light row wf m H) ⟨rfl, light, none, none, rfl, rfl⟩ (fun _ _ _ _ _ => trivial) (fun i v σ H0 H2 hi hI hY => ?_) (fun σ H2 hI => ?_)
    · obtain ⟨rfl, rfl⟩ := hY
      obtain ⟨rfl, c, l, y, rfl, hl⟩ := hI
      have ej : (m : Int) - 1 + (i : Int) * -1 = ((m - (i + 1) : Nat) : Int) := by omega
      dsimp only
      rw [ej]
      have hlt : m - (i + 1) < m := by omega
      have h1 := hx _ hlt
      have h2 := hy _ hlt
      rw [show m - i = (m - (i + 1)) + 1 by omega] at hl
      have eI : ∀ σ, (∃ (c : Int) (l : Option Int) (y : Option V), σ = [some (.ref ra), some (.int light), some (.ref pa), some (.int (m : Int)), some (optV l), some (.int c), y] ∧ lbo row wf (m - (i + 1)) c l = lbo row wf m light none) → LbI ra pa light row wf m H2 (i + 1) σ H2 := fun σ h => ⟨rfl, h⟩
      generalize LbI ra pa light row wf m H2 (i + 1) = NX at eI ⊢
      generalize m - (i + 1) = j at h1 h2 hl hlt eI ⊢
      walk_at "wp"
      refine ⟨_, _, hpa, atI_nat h2, ?_⟩
      generalize lbo row wf m light none = L at q hl eI
      unfold lbo at hl
      cases hw : wf j with
      | none =>
        rw [hw] at hl
        simp only [optV]
        walk_at "wp"
        have hl : l = L := hl
        rw [← hl] at q
        exact q
      | some p =>
        rw [hw] at hl h2
        dsimp only at hl
        simp only [optV]
        walk_at "wp"
        refine ⟨_, _, hpa, atI_nat h2, ?_⟩
        simp only [optV]
        walk_at "wp"
        cases l with
        | none =>
          simp only [optV]
          walk_at "wp"
          refine ⟨_, _, hra, atI_nat h1, ?_⟩
          walk_at "wp"
          exact eI _ ⟨_, some _, _, rfl, hl⟩
        | some l0 =>
          dsimp only at hl
          simp only [optV]
          walk_at "wp"
          refine ⟨_, _, hra, atI_nat h1, ?_⟩
          walk_at "wp"
          refine ite2 (fun h => ?_) (fun h => ?_)
          · rw [if_pos (of_decide_eq_true h)] at hl
            refine ⟨_, _, hra, atI_nat h1, ?_⟩
            walk_at "wp"
            exact eI _ ⟨_, some _, _, rfl, hl⟩
          · rw [if_neg (fun z => h (decide_eq_true z))] at hl
            exact eI _ ⟨_, some _, _, rfl, hl⟩
    · obtain ⟨rfl, c, l, y, rfl, hl⟩ := hI
      rw [Nat.sub_self] at hl
      have hl : l = lbo row wf m light none := hl
      rw [← hl] at q
      walk_at "wp"
      exact q
abbrev s_least_of : Stmt := top 34
theorem sc_least_of : FnScope ["row", "lights", "table", "many", "ovens", "costs", "baked", "cost"] ["row", "lights", "table", "many", "ovens"] (defScope s_least_of) := ⟨rfl, rfl, rfl, by decide +kernel, rfl, by decide +kernel, by decide +kernel⟩
def spLeastOf (K : PySem.W.Frag) : Sp := fun vs H Q _ => ∃ (ra la ta oa : Addr) (xs zs ts : List V) (row lights : Nat → Int) (wf : Nat → Nat → Option Int) (m c : Nat), vs = [.ref ra, .ref la, .ref ta, .int ((m + 1 : Nat) : Int), .ref oa] ∧ SqL K H ra xs ∧ SqL K H la zs ∧ SqL K H ta ts ∧ SqL K H oa ((List.range c).map fun j : Nat => V.int (j : Int)) ∧ (∀ i, i < m + 1 → xs[i]? = some (.int (row i))) ∧ (∀ i, i < c → zs[i]? = some (.int (lights i))) ∧
  (∀ j, j < c → ∃ p ys, ts[j]? = some (.ref p) ∧ SqL K H p ys ∧ ∀ i, i < m + 1 → ys[i]? = some (optV (wf j i))) ∧ m < 1000 ∧ c ≤ 1000 ∧ (∃ u, ChC row lights wf c m u) ∧ ∀ v H', Same H H' → ChC row lights wf c m v → (∀ u, ChC row lights wf c m u → v ≤ u) → Q (.int v) H'
theorem ok_least_of {f : Addr} {fd : FuncData} (F : Fun K "least_of" "least_of" s_least_of f fd) (B : Bi mg) (D_least_baked_on : Def P w K mg base "least_baked_on" 1 ["row", "light", "prices", "many"] (spLbo K)) : FnOk P w K mg base CX0 2 f fd ["row", "lights", "table", "many", "ovens"] (spLeastOf K) := by
  refine F.ok sc_least_of (fun vs H Q E h => ?_) (fun cdv A outer s H vs Q E hr h => ?_)
  · obtain ⟨_, _, _, _, _, _, _, _, _, _, _, _, rfl, _⟩ := h
    rfl
  · obtain ⟨ra, la, ta, oa, xs, zs, ts, row, lights, wf, m, c, rfl, hra, hla, hta, hoa, hx, hz, ht, hm, hc, hex, q⟩ := h
    refine ⟨_, (pss_cons (ps_setLc (i := 5) (own := [("baked", 6)]) (g := (gName 6)) (te := (tCall _ _ _ (tCons _ (tCons (tOp (rIxL K) _ _) (tCons (tOp (rIxL K) _ _) (tCons _ tNil)))))) rfl sc_least_of.nd rfl rfl (sw_true rfl rfl rfl (by decide +kernel)) (pi_list (pv 4)) (blkOk_by (own := [("baked", 6)]) (N := ["row", "lights", "table", "many", "ovens", "costs", "baked", "cost"]) (sc := defScope s_least_of) (by decide +kernel)) (fun _ _ _ _ _ => (pg_name (i := 6) sc_least_of.nd rfl (Or.inl rfl))) (fun _ _ _ _ _ => pts_nil) (fun _ _ _ _ _ => (pe_callD D_least_baked_on hr (by rfl) (pa_cons (pv 0) (pa_cons (pe_ix ix_list (pv 1) (pv 6) (fun _ _ => rfl)) (pa_cons (pe_ix ix_list (pv 2) (pv 6) (fun _ _ => rfl)) (pa_cons (pv 3) pa_nil)))))))
 (pss_one (ps_ret (pe_callB (cr_min rfl) (by rfl) B.min (by decide +kernel) (pa_cons (pe_lc (own := [("cost", 7)]) (g := (gName 7)) rfl sc_least_of.nd (pi_list (pv 5)) (blkOk_by (own := [("cost", 7)]) (N := ["row", "lights", "table", "many", "ovens", "costs", "baked", "cost"]) (sc := defScope s_least_of) (by decide +kernel)) (fun _ _ _ _ _ => (pg_name (i := 7) sc_least_of.nd rfl (Or.inl rfl))) (fun _ _ _ _ _ => (pts_one (pt_cmpR op_notN (pv 7) pe_non (nomark _)))) (fun _ _ _ _ _ => (pv 7))) pa_nil))))), ?_⟩
    walk_at "wp"
    refine ⟨⟨_, hoa⟩, fun D hD => ?_⟩
    refine LcR.map (walk_list (xs := (List.range c).map fun j : Nat => V.int (j : Int))) ((lbos row lights wf m c).map optV) hD (by unfold lbos; rw [List.length_map, List.length_map, List.length_range, List.length_map, List.length_range]) (by rw [List.length_map, List.length_range]; omega) (fun H s => s.seq hoa) (fun _ _ _ _ y => yat_same y) (fun n v y H0 H4 hn s4 yy hy R hR => ?_) (fun H4 s4 hH => ?_)
    · obtain ⟨rfl, hv⟩ := yy
      rw [List.length_map, List.length_range] at hn
      rw [List.getElem?_map, List.getElem?_range hn] at hv
      cases hv
      unfold lbos at hy
      rw [List.getElem?_map, List.getElem?_map, List.getElem?_range hn] at hy
      cases hy
      obtain ⟨p, ys, e1, e2, e3⟩ := ht n hn
      walk_at "wp"
      refine ⟨_, _, s4.seq hla, atI_nat (hz n hn), _, _, s4.seq hta, atI_nat e1, ?_⟩
      exact ⟨_, _, _, _, row, wf n, lights n, m + 1, rfl, s4.seq hra, s4.seq e2, hx, e3, by omega, hR _ (Same.refl _)⟩
    · walk_at "wp"
      refine ⟨⟨_, SqL.of hH⟩, fun D2 hD2 => ?_⟩
      refine LcR.opts (lbos row lights wf m c) hD2 (SqL.of hH) (by unfold lbos; rw [List.length_map, List.length_range]; omega) (fun o H5 _ _ N M h1 h2 => ?_) (fun H5 s5 hH5 => ?_)
      · cases o with
        | none =>
          simp only [optV]
          walk_at "wp"
          exact h1 rfl
        | some z =>
          simp only [optV]
          walk_at "wp"
          exact h2 z rfl
      · obtain ⟨u, hu⟩ := hex
        obtain ⟨v0, hv0, _⟩ := lbos_least hu
        refine ⟨_, SqL.of hH5, List.length_pos_of_mem hv0, fun v hv hmin => q v _ (s4.trans s5) (lbos_mem hv) fun u hu => ?_⟩
        obtain ⟨v1, hv1, hle⟩ := lbos_least hu
        have := hmin _ hv1
        omega
abbrev s_is_unwanted : Stmt := top 35
theorem sc_is_unwanted : FnScope ["good", "day", "days", "life", "want", "loaf", "keep", "fine"] ["good", "day"] (defScope s_is_unwanted) := ⟨rfl, rfl, rfl, by decide +kernel, rfl, by decide +kernel, by decide +kernel⟩
def spUnw (K : PySem.W.Frag) : Sp := fun vs H Q _ => ∃ x g d, ∃ k : Nat, vs = [x, .int (k : Int)] ∧ Th K H x (goodD g) ∧ g.days[k]? = some d ∧ Q (.bl (decide (d.want = 0))) H
theorem ok_is_unwanted {f : Addr} {fd : FuncData} (F : Fun K "is_unwanted" "is_unwanted" s_is_unwanted f fd) : FnOk P w K mg base CX0 1 f fd ["good", "day"] (spUnw K) := by
  refine F.ok sc_is_unwanted (fun vs H Q E h => ?_) (fun cdv A outer s H vs Q E hr h => ?_)
  · obtain ⟨x, g, d, k, rfl, _⟩ := h
    rfl
  · obtain ⟨x, g, d, k, rfl, hx, hd, q⟩ := h
    refine ⟨_, (pss_cons (ps_asg (pv 0) (pg_tup rfl (pgs_cons (pg_name (i := 2) sc_is_unwanted.nd rfl (Or.inl rfl)) (pgs_cons (pg_name (i := 3) sc_is_unwanted.nd rfl (Or.inl rfl)) pgs_nil))))
 (pss_cons (ps_asg (pe_ix ix_list (pv 2) (pv 1) (fun _ _ => rfl)) (pg_tup rfl (pgs_cons (pg_name (i := 4) sc_is_unwanted.nd rfl (Or.inl rfl)) (pgs_cons (pg_name (i := 5) sc_is_unwanted.nd rfl (Or.inl rfl)) (pgs_cons (pg_name (i := 6) sc_is_unwanted.nd rfl (Or.inl rfl)) (pgs_cons (pg_name (i := 7) sc_is_unwanted.nd rfl (Or.inl rfl)) pgs_nil))))))
 (pss_one (ps_ret (pe_cmpR op_eq (pv 4) pe_int (nomark _)))))), ?_⟩
    obtain ⟨t, a, xs, rfl, ht, hs, ha⟩ := hx.good
    obtain ⟨v, hv, hvd⟩ := ha.get' (i := k) (d := dayD d) (by rw [List.getElem?_map, hd]; rfl)
    obtain ⟨t2, rfl, ht2⟩ := hvd.day
    walk_at "wp"
    refine ⟨_, ht, rfl, ?_⟩
    walk_at "wp"
    refine ⟨_, _, hs, atI_nat hv, ?_⟩
    walk_at "wp"
    refine ⟨_, ht2, rfl, ?_⟩
    walk_at "wp"
    exact q
abbrev s_wanted_table : Stmt := top 31
theorem sc_wanted_table : FnScope ["good", "days", "life", "baked", "given"] ["good"] (defScope s_wanted_table) := ⟨rfl, rfl, rfl, by decide +kernel, rfl, by decide +kernel, by decide +kernel⟩
def TabOf (g : Good) (n : Nat) (H' : Hp) (acc : List V) : Prop := acc.length = n ∧ ∀ j, j < n → ∃ p, acc[j]? = some (.ref p) ∧ H' p = some (.lst ((List.range n).map fun k => optV (wantP g j k)))
def spTable (K : PySem.W.Frag) : Sp := fun vs H Q _ => ∃ x g, vs = [x] ∧ Th K H x (goodD g) ∧ okDays g ∧ g.days.length ≤ 1000 ∧ ∀ (H' : Hp) (p : Addr) (acc : List V), Same H H' → H p = none → H' p = some (.lst acc) → TabOf g g.days.length H' acc → Q (.ref p) H'
def TabI (g : Good) (n : Nat) (D : Addr) (H1 : Hp) (i : Nat) (H' : Hp) : Prop := Same H1 H' ∧ ∃ acc : List V, H' D = some (.lst acc) ∧ acc.length = i ∧ ∀ j, j < i → ∃ p, acc[j]? = some (.ref p) ∧ p ≠ D ∧ H' p = some (.lst ((List.range n).map fun k => optV (wantP g j k)))
theorem ok_wanted_table {f : Addr} {fd : FuncData} (F : Fun K "wanted_table" "wanted_table" s_wanted_table f fd) (B : Bi mg) (D_wanted_price : Def P w K mg base "wanted_price" 3 ["good", "baked", "given"] (spWanted K)) : FnOk P w K mg base CX0 4 f fd ["good"] (spTable K) := by
  refine F.ok sc_wanted_table (fun vs H Q E h => ?_) (fun cdv A outer s H vs Q E hr h => ?_)
  · obtain ⟨x, g, rfl, _⟩ := h
    rfl
  · obtain ⟨x, g, rfl, hx, hok, hn1, q⟩ := h
    refine ⟨_, (pss_cons (ps_asg (pv 0) (pg_tup rfl (pgs_cons (pg_name (i := 1) sc_wanted_table.nd rfl (Or.inr rfl)) (pgs_cons (pg_name (i := 2) sc_wanted_table.nd rfl (Or.inl rfl)) pgs_nil))))
 (pss_one (ps_ret (pe_lc (own := [("baked", 3)]) (g := (gName 3)) (te := (tLc (iRng1 (tCons (tCB (rLnL K) _) tNil)) (gName 4) tYes _ [4])) rfl sc_wanted_table.nd (pi_range1 (by rfl) B.range (pa_cons (pe_callB call_lnL (by rfl) B.len (by decide +kernel) (pa_cons (pv 1) pa_nil)) pa_nil)) (blkOk_by (own := [("baked", 3)]) (N := ["good", "days", "life", "baked", "given"]) (sc := defScope s_wanted_table) (by decide +kernel)) (fun _ _ _ _ _ => (pg_name (i := 3) sc_wanted_table.nd rfl (Or.inr rfl))) (fun _ _ _ _ _ => pts_nil) (fun _ _ _ _ _ => (pe_lc (own := [("given", 4)]) (g := (gName 4)) rfl sc_wanted_table.nd (pi_range1 (by rfl) B.range (pa_cons (pe_callB call_lnL (by rfl) B.len (by decide +kernel) (pa_cons (pv 1) pa_nil)) pa_nil)) (blkOk_by (own := [("given", 4)]) (N := ["good", "days", "life", "baked", "given"]) (sc := ({ kind := .function, names := [(".0", .local), ("baked", .cell), ("range", .globalImplicit), ("len", .globalImplicit), ("days", .cell), ("good", .cell)], isGenerator := false, isCoroutine := false } : Scope)) (by decide +kernel)) (fun _ _ _ _ _ => (pg_name (i := 4) sc_wanted_table.nd rfl (Or.inl rfl))) (fun _ _ _ _ _ => pts_nil) (fun _ _ _ _ _ => (pe_callD D_wanted_price hr (by rfl) (pa_cons (pv 0) (pa_cons (pv 3) (pa_cons (pv 4) pa_nil))))))))))), ?_⟩
    obtain ⟨t, a, xs, rfl, ht, hs, ha⟩ := hx.good
    have hxl := ha.length
    rw [List.length_map] at hxl
    walk_at "wp"
    refine ⟨_, ht, rfl, ?_⟩
    walk_at "wp"
    refine ⟨_, hs, ?_⟩
    walk_at "wp"
    refine ⟨by omega, by omega, fun D hD => ?_⟩
    rw [show ((xs.length : Nat) : Int).toNat = g.days.length by omega]
    refine LcR.by walk_range (TabI g g.days.length D H) ⟨same_upd hD, [], upd_same, rfl, fun j h => by omega⟩ (fun _ _ _ _ => trivial) (fun n v H0 H4 hn hI yy => ?_) (fun H4 hI => ?_)
    · obtain ⟨rfl, rfl⟩ := yy
      obtain ⟨s4, acc, hacc, hal, hrow⟩ := hI
      walk_at "wp"
      refine ⟨_, s4.seq hs, ?_⟩
      walk_at "wp"
      refine ⟨by omega, by omega, fun D2 hD2 => ?_⟩
      rw [show ((xs.length : Nat) : Int).toNat = g.days.length by omega]
      have ne : D2 ≠ D := fun e => by rw [e, hacc] at hD2; cases hD2
      refine LcR.map walk_range ((List.range g.days.length).map fun k => optV (wantP g n k)) hD2 (by rw [List.length_map, List.length_range]) (by omega) (fun _ _ => trivial) (fun _ _ _ _ y => yfn_same y) (fun k v y H0 H5 hk s5 yy hy R hR => ?_) (fun H5 s5 hH5 => ?_)
      · obtain ⟨rfl, rfl⟩ := yy
        rw [List.getElem?_map, List.getElem?_range hk] at hy
        cases hy
        walk_at "wp"
        exact ⟨_, g, n, k, rfl, hx.same (s4.trans s5), hok, by omega, by omega, by omega, hR⟩
      · refine ⟨acc, s5 _ _ hacc, sz100l (by omega), same_mut (s4.trans s5) hD, _, upd_same, by rw [List.length_append, hal]; rfl, fun j hj => ?_⟩
        by_cases hjn : j < n
        · obtain ⟨p, e1, e2, e3⟩ := hrow j hjn
          exact ⟨p, by rw [List.getElem?_append_left (by omega)]; exact e1, e2, by rw [upd_ne e2]; exact s5 _ _ e3⟩
        · have ej : j = n := by omega
          subst ej
          exact ⟨D2, by rw [List.getElem?_append_right (by omega), hal, Nat.sub_self]; rfl, ne, by rw [upd_ne ne]; exact hH5⟩
    · obtain ⟨s4, acc, hacc, hal, hrow⟩ := hI
      exact q _ D acc s4 hD hacc ⟨hal, fun j hj => by obtain ⟨p, e1, _, e3⟩ := hrow j hj; exact ⟨p, e1, e3⟩⟩
abbrev s_least_row : Stmt := top 36
theorem sc_least_row : FnScope ["bakery", "lights", "bound", "goods", "good", "table", "row", "many", "least"] ["bakery"] (defScope s_least_row) := ⟨rfl, rfl, rfl, by decide +kernel, rfl, by decide +kernel, by decide +kernel⟩
def spRow (K : PySem.W.Frag) : Sp := fun vs H Q _ => ∃ x ls g, vs = [x] ∧ Th K H x (bakD ⟨ls, none, [g]⟩) ∧ bakB (bakD ⟨ls, none, [g]⟩) = true ∧ ∀ (H' : Hp) (p : Addr) (rs : List Int), Same H H' → H p = none → H' p = some (.lst (rs.map V.int)) → rs.length = ls.length + 1 → IsRow g (rowF ls) (rowF rs) ls.length → Q (.ref p) H'
def RowI (v0 v1 v2 v3 v4 v5 : V) (p : Addr) (g : Good) (ls : List Int) (H : Hp) (i : Nat) (σ : L2.St) (H' : Hp) : Prop := (∃ y7 y8, σ = [some v0, some v1, some v2, some v3, some v4, some v5, some (.ref p), y7, y8]) ∧ Same H H' ∧ ∃ rs : List Int, H' p = some (.lst (rs.map V.int)) ∧ rs.length = i + 1 ∧ IsRow g (rowF ls) (rowF rs) i
theorem ok_least_row {f : Addr} {fd : FuncData} (F : Fun K "least_row" "least_row" s_least_row f fd) (B : Bi mg) (D_look_at_plain : Def P w K mg base "look_at_plain" 8 ["bakery"] (spPlain K .non)) (D_wanted_table : Def P w K mg base "wanted_table" 4 ["good"] (spTable K))
    (D_least_of : Def P w K mg base "least_of" 2 ["row", "lights", "table", "many", "ovens"] (spLeastOf K)) (D_is_unwanted : Def P w K mg base "is_unwanted" 1 ["good", "day"] (spUnw K)) : FnOk P w K mg base CX0 9 f fd ["bakery"] (spRow K) := by
  refine F.ok sc_least_row (fun vs H Q E h => ?_) (fun cdv A outer s H vs Q E hr h => ?_)
  · obtain ⟨x, ls, g, rfl, _⟩ := h
    rfl
  · obtain ⟨x, ls, g, rfl, hx, hb, q⟩ := h
    refine ⟨_, (pss_cons (ps_expr (pe_callD D_look_at_plain hr (by rfl) (pa_cons (pv 0) pa_nil)))
 (pss_cons (ps_asg (pv 0) (pg_tup rfl (pgs_cons (pg_name (i := 1) sc_least_row.nd rfl (Or.inl rfl)) (pgs_cons (pg_name (i := 2) sc_least_row.nd rfl (Or.inl rfl)) (pgs_cons (pg_name (i := 3) sc_least_row.nd rfl (Or.inl rfl)) pgs_nil)))))
 (pss_cons (ps_set (i := 4) sc_least_row.nd rfl (Or.inl rfl) (pe_ix ix_list (pv 3) pe_int (fun _ _ => rfl)))
 (pss_cons (ps_set (i := 5) sc_least_row.nd rfl (Or.inl rfl) (pe_callD D_wanted_table hr (by rfl) (pa_cons (pv 4) pa_nil)))
 (pss_cons (ps_set (i := 6) sc_least_row.nd rfl (Or.inl rfl) (pe_lst (pa_cons pe_int pa_nil)))
 (pss_cons (ps_for PassesOwn.never rfl (pi_range2 (by rfl) B.range (pa_cons pe_int (pa_cons (pe_op op_add (pe_callB call_lnL (by rfl) B.len (by decide +kernel) (pa_cons (pv 1) pa_nil)) pe_int) pa_nil))) (pg_name (i := 7) sc_least_row.nd rfl (Or.inl rfl)) (pss_cons (ps_set (i := 8) sc_least_row.nd rfl (Or.inl rfl) (pe_callD D_least_of hr (by rfl) (pa_cons (pv 6) (pa_cons (pv 1) (pa_cons (pv 5) (pa_cons (pv 7) (pa_cons (pe_listRg rfl (by rfl) B.list (prg_1 (by rfl) B.range (pv 7))) pa_nil)))))))
 (pss_cons (ps_if (pt_val (pe_callD D_is_unwanted hr (by rfl) (pa_cons (pv 4) (pa_cons (pe_op op_sub (pv 7) pe_int) pa_nil)))) (pss_one (ps_set (i := 8) sc_least_row.nd rfl (Or.inl rfl) (pe_callB (call_mn rfl) (by rfl) B.min (by decide +kernel) (pa_cons (pv 8) (pa_cons (pe_ix ix_list (pv 6) (pe_op op_sub (pv 7) pe_int) (fun _ _ => rfl)) pa_nil))))) pss_nil)
 (pss_one (ps_expr (pe_bm PySem.F.plainAttrs_list PySem.F.slot_list_append PySem.F.type_list_append mt_append (pv 6) (pa_cons (pv 8) pa_nil)))))))
 (pss_one (ps_ret (pv 6))))))))), ?_⟩
    obtain ⟨⟨c1, c2⟩, c3, _, _, c7⟩ := bak_parts hb
    obtain ⟨c8, c9, hok⟩ := c7 g (List.mem_singleton.mpr rfl)
    dsimp only at c1 c2 c3 c8
    walk_at "wp"
    refine ⟨_, _, rfl, hx, hb, rfl, rfl, fun H1 s1 => ?_⟩
    obtain ⟨a, l, v2, ga, xl, xg, rfl, ht, hl, hla, h2, hgl, hga⟩ := Th.bak (hx.same s1)
    obtain ⟨vg, hv, hvg⟩ := hga.get' (i := 0) (d := goodD g) rfl
    have hln := hla.length
    rw [List.length_map] at hln
    dsimp only at hln
    walk_at "wp"
    refine ⟨_, ht, rfl, ?_⟩
    walk_at "wp"
    refine ⟨_, _, hgl, atI_nat hv, ?_⟩
    walk_at "wp"
    refine ⟨_, g, rfl, hvg, hok, by omega, fun H4 D acc s4 hD0 hacc hrow => ?_⟩
    obtain ⟨hal, hrow⟩ := hrow
    walk_at "wp"
    have hx4 := s1.trans s4
    refine ⟨sz100 (by decide), fun p hp => ⟨_, (same_upd hp).seq (s4.seq hl), ?_⟩⟩
    walk_at "wp"
    refine ⟨⟨by omega, by omega, by omega, by omega⟩, ?_⟩
    have hHp : H p = none := by
      cases e : H p with
      | none => rfl
      | some o => rw [hx4 _ _ e] at hp; cases hp
    rw [show ((xl.length : Int) + 1 - 1).toNat = ls.length by omega]
    refine LoopR.by walk_range (RowI (.ref a) (.ref l) v2 (.ref ga) vg (.ref D) p g ls H4) ⟨⟨_, _, rfl⟩, same_upd hp, [0], upd_same, rfl, IsRow.init _ _⟩ (fun _ _ _ _ _ => trivial) (fun i v σ H0 H5 hi hI yy => ?_) (fun σ H5 hI => ?_)
    · obtain ⟨rfl, rfl⟩ := yy
      obtain ⟨⟨y7, y8, rfl⟩, s5, rs, hrs, hrl, hR⟩ := hI
      have hxl : xl = ls.map V.int := hla.intsV
      have ei : (1 : Int) + (i : Int) = ((i + 1 : Nat) : Int) := by omega
      have hdi : i < g.days.length := by omega
      have hd : g.days[i]? = some g.days[i] := List.getElem?_eq_getElem hdi
      generalize g.days[i] = d at hd
      have s15 := s4.trans s5
      dsimp only
      rw [ei]
      walk_at "wp"
      refine ⟨RgOk.of_le (by omega) (by omega) (by omega) (by omega), fun oa hoa0 => ?_⟩
      have so := same_upd (o := .lst (rgV 0 ((i + 1 : Nat) : Int))) hoa0
      have hoa : upd H5 oa (.lst (rgV 0 ((i + 1 : Nat) : Int))) oa = some (.lst ((List.range (i + 1)).map fun j : Nat => V.int (j : Int))) := by rw [upd_same, rgV_zero]
      generalize upd H5 oa (.lst (rgV 0 ((i + 1 : Nat) : Int))) = H5' at so hoa ⊢
      have s5 := s5.trans so
      have s15 := s4.trans s5
      have hrs := so _ _ hrs
      refine ⟨p, l, D, oa, rs.map V.int, xl, acc, rowF rs, rowF ls, wantP g, i, i + 1, rfl, SqL.of hrs, s15.seq hl, SqL.of (s5 _ _ hacc), SqL.of hoa, fun j hj => rowF_get (by omega), fun j hj => by rw [hxl]; exact rowF_get (by omega), fun j hj => ?_, by omega, by omega, ⟨_, own_chC (by omega) hd (life_ok c9)⟩, fun v H6 s6 hv hmin => ?_⟩
      · obtain ⟨p2, e1, e3⟩ := hrow j (by omega)
        refine ⟨p2, _, e1, SqL.of (s5 _ _ e3), fun k hk => ?_⟩
        rw [List.getElem?_map, List.getElem?_range (by omega)]
        rfl
      · have hrs6 := s6 _ _ hrs
        have fin : ∀ (u : Int) (y7 y8 : Option V), Choice g (rowF ls) (rowF rs) i u → (∀ z, Choice g (rowF ls) (rowF rs) i z → u ≤ z) → RowI (.ref a) (.ref l) v2 (.ref ga) vg (.ref D) p g ls H4 (i + 1) [some (.ref a), some (.ref l), some v2, some (.ref ga), some vg, some (.ref D), some (.ref p), y7, y8] (upd H6 p (.lst (rs.map V.int ++ [.int u]))) := fun u y7 y8 h1 h2 =>
          ⟨⟨_, _, rfl⟩, same_mut (s5.trans s6) hp, rs ++ [u], by rw [upd_same, List.map_append]; rfl, by rw [List.length_append, hrl]; rfl, hR.snoc hrl h1 h2⟩
        have hlen : (rs.map V.int).length < sizeLine := sz100l (by rw [List.length_map]; omega)
        walk_at "wp"
        refine ⟨_, g, d, i, by rw [show ((i + 1 : Nat) : Int) - 1 = (i : Int) by omega], hvg.same (s15.trans s6), hd, ?_⟩
        walk_at "wp"
        refine ite2 (fun h => ?_) (fun h => ?_)
        · have hw : d.want = 0 := of_decide_eq_true h
          refine ⟨_, _, SqL.of hrs6, by rw [show ((i + 1 : Nat) : Int) - 1 = (i : Int) by omega]; exact atI_nat (rowF_get (by omega)), ?_⟩
          walk_at "wp"
          refine ⟨tyL (SqL.of hrs6), _, hrs6, hlen, fin _ _ _ ?_ ?_⟩
          · split
            · exact .inr ⟨⟨d, hd, hw⟩, rfl⟩
            · exact chC_choice hv
          · intro z hz
            have k : z = rowF rs i ∨ v ≤ z := by
              rcases choice_chC hz with hz | hz
              · exact .inr (hmin z hz)
              · exact .inl hz
            split <;> omega
        · have hw : ¬ d.want = 0 := fun z => h (decide_eq_true z)
          exact ⟨tyL (SqL.of hrs6), _, hrs6, hlen, fin v _ _ (chC_choice hv) fun z hz => hmin z (choice_not hd hw hz)⟩
    · obtain ⟨⟨y7, y8, rfl⟩, s5, rs, hrs, hrl, hR⟩ := hI
      walk_at "wp"
      exact q _ p rs (hx4.trans s5) hHp hrs hrl hR
end
end Bk

namespace Bk
open PySem PySem.Spec PyProof.Rows L2
local macro_rules | `(tactic| walk_at "wp") => `(tactic| try simp only [Int.zero_add, tNever, tFor_eq, tLc_eq, iList, iTup, iRng1_eq, rRng1_i, iRng2_eq, rRng2_i, iEnum_eq, rEnum_r, iZip_eq, rZip_r, tSl, tPart, tNoPart, rSlL_r, rCat_r, rIn_r, rNin_r, rRepr_r, iRevR, rMin_r, rShr_i, rOdd_i, rSetL_r, gSub, rRg1_i, rRg2_i, rInr_r, tAug, ipI_ii, tLstRg, tRg1, tRg2, gTup_r, gUnl_r, rInt1_b, rInt1_i, rRep_r, tStep_r, scal, tSeq, tNext, tAsg, tRet, tRetN, tIfS, tDrop, tCB, tCons, tNil, tVar, tOp, tUn, tC, rU_i, rI_ii, rI0_ii, rEq, rNe, tTest, tB, tAnd, tOr, tNot, tAndV, tOrV, tNotV, tIf, tChain, tLst, tTup, tBM, tBM0, rAppend_r, rIxL_r, rIxT_r, rMx_ii, rMn_ii, rLnL_r, rLnT_r, rIsD_int, rIsD_bool, rIsD_list, rIsD_tuple, tCall, gName, gNil_n, gCons_c, cxK, L2.start, List.map, List.replicate, List.length_cons, List.length_nil, List.cons_append, List.nil_append, List.append_nil, List.getElem?_cons_zero, List.getElem?_cons_succ, Option.some.injEq, exists_eq_left', exists_eq_left, V.int.injEq, V.bl.injEq, V.str.injEq, V.ref.injEq, List.cons.injEq, and_true, true_and, and_self, List.set, wipe, rAll_r, rSum_r, reduceCtorEq, decide_true, decide_false, reduceIte, ite_true, ite_false, if_true, if_false, Bool.false_eq_true, Bool.not_true, Bool.not_false])
local macro_rules | `(tactic| walk_at "shaped") => `(tactic| (simp only [SeqAt.shaped, PyData.canLay0, PyData.canLayAll0, PyData.depth, PyData.depthAll]; rfl))
local macro_rules | `(tactic| walk_at "lay") => `(tactic| (simp only [PyData.canLay0, PyData.canLayAll0]; rfl))
section
variable {P : Program} {w : World} {K : PySem.W.Frag} {mg : Str → Option Value} {base : Heap}
abbrev s_never_waits : Stmt := top 53
theorem sc_never_waits : FnScope ["days", "want", "loaf", "keep", "fine"] ["days"] (defScope s_never_waits) := ⟨rfl, rfl, rfl, by decide +kernel, rfl, by decide +kernel, by decide +kernel⟩
def spNever (K : PySem.W.Frag) : Sp := fun vs H Q _ => ∃ (x : V) (ds : List Day), vs = [x] ∧ Th K H x (.list (ds.map dayD)) ∧ ds.length ≤ 1000 ∧ ∀ (H' : Hp) (r : Bool), Same H H' → (r = true ↔ ∀ d ∈ ds, d.fine = none) → Q (.bl r) H'
theorem ok_never_waits {f : Addr} {fd : FuncData} (F : Fun K "never_waits" "never_waits" s_never_waits f fd) (B : Bi mg) : FnOk P w K mg base CX0 1 f fd ["days"] (spNever K) := by
  refine F.ok sc_never_waits (fun vs H Q E h => ?_) (fun cdv A outer s H vs Q E hr h => ?_)
  · obtain ⟨_, _, rfl, _⟩ := h
    rfl
  · obtain ⟨x, ds, rfl, hx, hn, q⟩ := h
    refine ⟨_, (pss_one (ps_ret (pe_callB (cr_all rfl) (by rfl) B.all (by decide +kernel) (pa_cons (pe_lc (own := [("want", 1), ("loaf", 2), ("keep", 3), ("fine", 4)]) (g := (gTup K 4 (gCons (gName 1) (gCons (gName 2) (gCons (gName 3) (gCons (gName 4) gNil)))))) rfl sc_never_waits.nd (pi_list (pv 0)) (blkOk_by (own := [("want", 1), ("loaf", 2), ("keep", 3), ("fine", 4)]) (N := ["days", "want", "loaf", "keep", "fine"]) (sc := defScope s_never_waits) (by decide +kernel)) (fun _ _ _ _ _ => (pg_tup rfl (pgs_cons (pg_name (i := 1) sc_never_waits.nd rfl (Or.inl rfl)) (pgs_cons (pg_name (i := 2) sc_never_waits.nd rfl (Or.inl rfl)) (pgs_cons (pg_name (i := 3) sc_never_waits.nd rfl (Or.inl rfl)) (pgs_cons (pg_name (i := 4) sc_never_waits.nd rfl (Or.inl rfl)) pgs_nil)))))) (fun _ _ _ _ _ => pts_nil) (fun _ _ _ _ _ => (pe_cmpR op_isN (pv 4) pe_non (nomark _)))) pa_nil)))), ?_⟩
    cases hx with
    | lst hs ha =>
    rename_i a xs
    have hxs := ha.length
    rw [List.length_map] at hxs
    walk_at "wp"
    refine ⟨⟨_, hs⟩, fun D hD => ?_⟩
    refine LcR.map (walk_list (xs := xs)) ((ds.map fun d => d.fine.isNone).map V.bl) hD (by rw [List.length_map, List.length_map, hxs]) (by omega) (fun H s => s.seq hs) (fun _ _ _ _ y => yat_same y) (fun i x y H0 H1 hi s1 yy hy R hR => ?_) (fun H1 s1 hH => ?_)
    · obtain ⟨rfl, hx⟩ := yy
      obtain ⟨dd, hdd, hxd⟩ := ha.get hx
      rw [List.getElem?_map] at hdd
      rw [List.getElem?_map, List.getElem?_map] at hy
      cases hc : ds[i]? with
      | none => rw [hc] at hdd; cases hdd
      | some c =>
        rw [hc] at hdd hy
        cases hdd
        cases hy
        obtain ⟨t, rfl, ht⟩ := (hxd.same s1).day
        walk_at "wp"
        refine ⟨_, ht, rfl, ?_⟩
        have hR : ∀ H4, Same H1 H4 → R (V.bl c.fine.isNone) H4 := hR
        cases hf : c.fine with
        | none =>
          rw [hf] at hR
          simp only [optV]
          walk_at "wp"
          exact hR _ (Same.refl _)
        | some z =>
          rw [hf] at hR
          simp only [optV]
          walk_at "wp"
          exact hR _ (Same.refl _)
    · refine ⟨_, SqL.of hH, q _ _ s1 ?_⟩
      rw [List.all_map, List.all_eq_true]
      constructor
      · intro h d hd
        exact Option.isNone_iff_eq_none.mp (h d hd)
      · intro h d hd
        exact Option.isNone_iff_eq_none.mpr (h d hd)
abbrev s_is_later_never_dearer : Stmt := top 54
theorem sc_is_later_never_dearer : FnScope ["days", "kept", "fresh", "want", "loaf", "keep", "fine", "old", "new"] ["days"] (defScope s_is_later_never_dearer) := ⟨rfl, rfl, rfl, by decide +kernel, rfl, by decide +kernel, by decide +kernel⟩
def LaterOk (ds : List Day) : Prop := ∀ (k : Nat) (d e : Day), ds[k]? = some d → ds[k + 1]? = some e → e.loaf ≤ d.loaf + d.keep
def spLater (K : PySem.W.Frag) : Sp := fun vs H Q _ => ∃ (x : V) (ds : List Day), vs = [x] ∧ Th K H x (.list (ds.map dayD)) ∧ ds.length ≤ 1000 ∧ ∀ (H' : Hp) (r : Bool), Same H H' → (r = true ↔ LaterOk ds) → Q (.bl r) H'
theorem ok_is_later_never_dearer {f : Addr} {fd : FuncData} (F : Fun K "is_later_never_dearer" "is_later_never_dearer" s_is_later_never_dearer f fd) (B : Bi mg) (Bz : mg "zip" = none) : FnOk P w K mg base CX0 1 f fd ["days"] (spLater K) := by
  refine F.ok sc_is_later_never_dearer (fun vs H Q E h => ?_) (fun cdv A outer s H vs Q E hr h => ?_)
  · obtain ⟨_, _, rfl, _⟩ := h
    rfl
  · obtain ⟨x, ds, rfl, hx, hn, q⟩ := h
    refine ⟨_, (pss_cons (ps_setLc (i := 1) (own := [("want", 3), ("loaf", 4), ("keep", 5), ("fine", 6)]) (g := (gTup K 4 (gCons (gName 3) (gCons (gName 4) (gCons (gName 5) (gCons (gName 6) gNil)))))) rfl sc_is_later_never_dearer.nd rfl rfl (sw_true rfl rfl rfl (by decide +kernel)) (pi_list (pv 0)) (blkOk_by (own := [("want", 3), ("loaf", 4), ("keep", 5), ("fine", 6)]) (N := ["days", "kept", "fresh", "want", "loaf", "keep", "fine", "old", "new"]) (sc := defScope s_is_later_never_dearer) (by decide +kernel)) (fun _ _ _ _ _ => (pg_tup rfl (pgs_cons (pg_name (i := 3) sc_is_later_never_dearer.nd rfl (Or.inl rfl)) (pgs_cons (pg_name (i := 4) sc_is_later_never_dearer.nd rfl (Or.inl rfl)) (pgs_cons (pg_name (i := 5) sc_is_later_never_dearer.nd rfl (Or.inl rfl)) (pgs_cons (pg_name (i := 6) sc_is_later_never_dearer.nd rfl (Or.inl rfl)) pgs_nil)))))) (fun _ _ _ _ _ => pts_nil) (fun _ _ _ _ _ => (pe_op op_add (pv 4) (pv 5))))
 (pss_cons (ps_setLc (i := 2) (own := [("want", 3), ("loaf", 4), ("keep", 5), ("fine", 6)]) (g := (gTup K 4 (gCons (gName 3) (gCons (gName 4) (gCons (gName 5) (gCons (gName 6) gNil)))))) rfl sc_is_later_never_dearer.nd rfl rfl (sw_true rfl rfl rfl (by decide +kernel)) (pi_list (pe_slice sl_list (pv 0) (po_some pe_int) po_none)) (blkOk_by (own := [("want", 3), ("loaf", 4), ("keep", 5), ("fine", 6)]) (N := ["days", "kept", "fresh", "want", "loaf", "keep", "fine", "old", "new"]) (sc := defScope s_is_later_never_dearer) (by decide +kernel)) (fun _ _ _ _ _ => (pg_tup rfl (pgs_cons (pg_name (i := 3) sc_is_later_never_dearer.nd rfl (Or.inl rfl)) (pgs_cons (pg_name (i := 4) sc_is_later_never_dearer.nd rfl (Or.inl rfl)) (pgs_cons (pg_name (i := 5) sc_is_later_never_dearer.nd rfl (Or.inl rfl)) (pgs_cons (pg_name (i := 6) sc_is_later_never_dearer.nd rfl (Or.inl rfl)) pgs_nil)))))) (fun _ _ _ _ _ => pts_nil) (fun _ _ _ _ _ => (pv 4)))
 (pss_one (ps_ret (pe_callB (cr_all rfl) (by rfl) B.all (by decide +kernel) (pa_cons (pe_lc (own := [("old", 7), ("new", 8)]) (g := (gTup K 2 (gCons (gName 7) (gCons (gName 8) gNil)))) rfl sc_is_later_never_dearer.nd (pi_zip (by rfl) Bz (pa_cons (pv 1) (pa_cons (pv 2) pa_nil))) (blkOk_by (own := [("old", 7), ("new", 8)]) (N := ["days", "kept", "fresh", "want", "loaf", "keep", "fine", "old", "new"]) (sc := defScope s_is_later_never_dearer) (by decide +kernel)) (fun _ _ _ _ _ => (pg_tup rfl (pgs_cons (pg_name (i := 7) sc_is_later_never_dearer.nd rfl (Or.inl rfl)) (pgs_cons (pg_name (i := 8) sc_is_later_never_dearer.nd rfl (Or.inl rfl)) pgs_nil)))) (fun _ _ _ _ _ => pts_nil) (fun _ _ _ _ _ => (pe_cmpR op_le (pv 8) (pv 7) (nomark _)))) pa_nil)))))), ?_⟩
    cases hx with
    | lst hs ha =>
    rename_i a xs
    have hxs := ha.length
    rw [List.length_map] at hxs
    walk_at "wp"
    refine ⟨⟨_, hs⟩, fun D hD => ?_⟩
    refine LcR.map (walk_list (xs := xs)) ((ds.map fun d => d.loaf + d.keep).map V.int) hD (by rw [List.length_map, List.length_map, hxs]) (by omega) (fun H s => s.seq hs) (fun _ _ _ _ y => yat_same y) (fun i x y H0 H1 hi s1 yy hy R hR => ?_) (fun H1 s1 hH => ?_)
    · obtain ⟨rfl, hx⟩ := yy
      obtain ⟨dd, hdd, hxd⟩ := ha.get hx
      rw [List.getElem?_map] at hdd
      rw [List.getElem?_map, List.getElem?_map] at hy
      cases hc : ds[i]? with
      | none => rw [hc] at hdd; cases hdd
      | some c =>
        rw [hc] at hdd hy
        cases hdd
        cases hy
        obtain ⟨t, rfl, ht⟩ := (hxd.same s1).day
        walk_at "wp"
        refine ⟨_, ht, rfl, ?_⟩
        walk_at "wp"
        exact hR _ (Same.refl _)
    · walk_at "wp"
      refine ⟨_, s1.seq hs, fun p hp => ?_⟩
      rw [show cutV xs (some 1) none = xs.drop 1 from cutV_from xs 1]
      have S2 := same_upd (o := .lst (xs.drop 1)) hp
      have E2 : upd H1 p (.lst (xs.drop 1)) p = some (.lst (xs.drop 1)) := upd_same
      generalize upd H1 p (.lst (xs.drop 1)) = H2 at S2 E2 ⊢
      refine ⟨⟨_, SqL.of E2⟩, fun D2 hD2 => ?_⟩
      have ha2 := (ha.same (s1.trans S2)).drop 1
      rw [← List.map_drop] at ha2
      refine LcR.map (walk_list (xs := xs.drop 1)) (((ds.drop 1).map fun d => d.loaf).map V.int) hD2 (by rw [List.length_map, List.length_map, List.length_drop, List.length_drop, hxs]) (by rw [List.length_drop]; omega) (fun H s => s.seq (SqL.of E2)) (fun _ _ _ _ y => yat_same y) (fun i x y H0 H3 hi s3 yy hy R hR => ?_) (fun H3 s3 hH3 => ?_)
      · obtain ⟨rfl, hx⟩ := yy
        obtain ⟨dd, hdd, hxd⟩ := ha2.get hx
        rw [List.getElem?_map] at hdd
        rw [List.getElem?_map, List.getElem?_map] at hy
        cases hc : (ds.drop 1)[i]? with
        | none => rw [hc] at hdd; cases hdd
        | some c =>
          rw [hc] at hdd hy
          cases hdd
          cases hy
          obtain ⟨t, rfl, ht⟩ := (hxd.same s3).day
          walk_at "wp"
          refine ⟨_, ht, rfl, ?_⟩
          walk_at "wp"
          exact hR _ (Same.refl _)
      · have hk3 := (S2.trans s3) _ _ hH
        walk_at "wp"
        refine ⟨_, _, SqL.of hk3, SqL.of hH3, fun D3 hD3 => ?_⟩
        let bs : List Bool := (List.range (ds.length - 1)).map fun k => decide (rowF ((ds.drop 1).map fun d => d.loaf) k ≤ rowF (ds.map fun d => d.loaf + d.keep) k)
        refine LcR.map (walk_zip (n := ds.length - 1) (xs := (ds.map fun d => d.loaf + d.keep).map V.int) (ys := ((ds.drop 1).map fun d => d.loaf).map V.int) (by rw [List.length_map, List.length_map, List.length_map, List.length_map, List.length_drop]; omega)) (bs.map V.bl) hD3 (by show (((List.range (ds.length - 1)).map _).map _).length = _; rw [List.length_map, List.length_map, List.length_range]) (by omega) (fun H s => ⟨s.seq (SqL.of hk3), s.seq (SqL.of hH3)⟩) (fun _ _ _ _ y => ypair_same y) (fun i x y H0 H4 hi s4 yy hy R hR => ?_) (fun H4 s4 hH4 => ?_)
        · obtain ⟨T, z1, z2, rfl, hT, rfl, e1, e2⟩ := yy
          have e1 : ((ds.map fun d => d.loaf + d.keep).map V.int)[i]? = some z1 := e1
          have e2 : (((ds.drop 1).map fun d => d.loaf).map V.int)[i]? = some z2 := e2
          rw [rowF_get (by rw [List.length_map]; omega)] at e1
          rw [rowF_get (by rw [List.length_map, List.length_drop]; omega)] at e2
          cases e1
          cases e2
          rw [List.getElem?_map, List.getElem?_map, List.getElem?_range hi] at hy
          cases hy
          walk_at "wp"
          refine ⟨_, SqT.of upd_same, rfl, ?_⟩
          walk_at "wp"
          exact hR _ (Same.refl _)
        · refine ⟨bs, SqL.of hH4, q _ _ (((s1.trans S2).trans s3).trans s4) ?_⟩
          rw [List.all_eq_true]
          have at0 : ∀ k d, ds[k]? = some d → rowF (ds.map fun d => d.loaf + d.keep) k = d.loaf + d.keep := fun k d e => by
            unfold rowF
            rw [List.getD_eq_getElem?_getD, List.getElem?_map, e]
            rfl
          have at1 : ∀ k d, ds[k + 1]? = some d → rowF ((ds.drop 1).map fun d => d.loaf) k = d.loaf := fun k d e => by
            unfold rowF
            rw [List.getD_eq_getElem?_getD, List.getElem?_map, List.getElem?_drop, Nat.add_comm 1 k, e]
            rfl
          constructor
          · intro h k d e hd he
            have hk : k < ds.length - 1 := by have := (List.getElem?_eq_some_iff.mp he).1; omega
            have := h _ (List.mem_map.mpr ⟨k, List.mem_range.mpr hk, rfl⟩)
            have := of_decide_eq_true this
            rw [at0 k d hd, at1 k e he] at this
            exact this
          · intro h b hb
            obtain ⟨k, hk, rfl⟩ := List.mem_map.mp hb
            have hk := List.mem_range.mp hk
            have hd : ds[k]? = some ds[k] := List.getElem?_eq_getElem (by omega)
            have he : ds[k + 1]? = some ds[k + 1] := List.getElem?_eq_getElem (by omega)
            have := h k _ _ hd he
            rw [← at0 k _ hd, ← at1 k _ he] at this
            exact decide_eq_true this
abbrev s_is_steady : Stmt := top 55
theorem sc_is_steady : FnScope ["bakery", "lights", "bound", "goods", "days", "life"] ["bakery"] (defScope s_is_steady) := ⟨rfl, rfl, rfl, by decide +kernel, rfl, by decide +kernel, by decide +kernel⟩
def spIsSt (K : PySem.W.Frag) : Sp := fun vs H Q _ => ∃ x ls g, vs = [x] ∧ Th K H x (bakD ⟨ls, none, [g]⟩) ∧ bakB (bakD ⟨ls, none, [g]⟩) = true ∧ ∀ (H' : Hp) (r : Bool), Same H H' → (r = true ↔ Steady g) → Q (.bl r) H'
theorem ok_is_steady {f : Addr} {fd : FuncData} (F : Fun K "is_steady" "is_steady" s_is_steady f fd) (D_is_plain : Def P w K mg base "is_plain" 7 ["bakery"] (spPlain K (.bl true))) (D_never_waits : Def P w K mg base "never_waits" 1 ["days"] (spNever K)) (D_is_later_never_dearer : Def P w K mg base "is_later_never_dearer" 1 ["days"] (spLater K)) : FnOk P w K mg base CX0 8 f fd ["bakery"] (spIsSt K) := by
  refine F.ok sc_is_steady (fun vs H Q E h => ?_) (fun cdv A outer s H vs Q E hr h => ?_)
  · obtain ⟨_, _, _, rfl, _⟩ := h
    rfl
  · obtain ⟨x, ls, g, rfl, hx, hb, q⟩ := h
    refine ⟨_, (pss_cons (ps_if (pt_not (pt_val (pe_callD D_is_plain hr (by rfl) (pa_cons (pv 0) pa_nil)))) (pss_one (ps_ret pe_bl)) pss_nil)
 (pss_cons (ps_asg (pv 0) (pg_tup rfl (pgs_cons (pg_name (i := 1) sc_is_steady.nd rfl (Or.inl rfl)) (pgs_cons (pg_name (i := 2) sc_is_steady.nd rfl (Or.inl rfl)) (pgs_cons (pg_name (i := 3) sc_is_steady.nd rfl (Or.inl rfl)) pgs_nil)))))
 (pss_cons (ps_asg (pe_ix ix_list (pv 3) pe_int (fun _ _ => rfl)) (pg_tup rfl (pgs_cons (pg_name (i := 4) sc_is_steady.nd rfl (Or.inl rfl)) (pgs_cons (pg_name (i := 5) sc_is_steady.nd rfl (Or.inl rfl)) pgs_nil))))
 (pss_one (ps_ret (pe_and (pe_callD D_never_waits hr (by rfl) (pa_cons (pv 4) pa_nil)) (pe_one (pe_callD D_is_later_never_dearer hr (by rfl) (pa_cons (pv 4) pa_nil))))))))), ?_⟩
    obtain ⟨⟨c1, c2⟩, c3, _, _, c7⟩ := bak_parts hb
    obtain ⟨c8, c9, hok⟩ := c7 g (List.mem_singleton.mpr rfl)
    dsimp only at c1 c2 c3 c8
    walk_at "wp"
    refine ⟨_, _, rfl, hx, hb, rfl, rfl, fun H1 s1 => ?_⟩
    obtain ⟨a, l, v2, ga, xl, xg, rfl, ht, hl, hla, h2, hgl, hga⟩ := Th.bak (hx.same s1)
    obtain ⟨vg, hv, hvg⟩ := hga.get' (i := 0) (d := goodD g) rfl
    obtain ⟨tg, ad, xs, rfl, htg, hsg, hag⟩ := hvg.good
    walk_at "wp"
    refine ⟨_, ht, rfl, ?_⟩
    walk_at "wp"
    refine ⟨_, _, hgl, atI_nat (j := 0) hv, ?_⟩
    walk_at "wp"
    refine ⟨_, htg, rfl, ?_⟩
    walk_at "wp"
    refine ⟨_, g.days, rfl, .lst hsg hag, by omega, fun H2 r s2 hr2 => ?_⟩
    walk_at "wp"
    cases r with
    | false =>
      walk_at "wp"
      refine q _ false (s1.trans s2) ⟨fun z => (by cases z), fun z => ?_⟩
      have := hr2.mpr z.nofine
      cases this
    | true =>
      walk_at "wp"
      refine ⟨_, g.days, rfl, .lst (s2.seq hsg) (hag.same s2), by omega, fun H3 r s3 hr3 => q _ r ((s1.trans s2).trans s3) ?_⟩
      rw [hr3]
      exact ⟨fun z => ⟨hr2.mp rfl, z⟩, fun z => z.never⟩
abbrev s_look_at_steady : Stmt := top 56
theorem sc_look_at_steady : FnScope ["bakery"] ["bakery"] (defScope s_look_at_steady) := ⟨rfl, rfl, rfl, by decide +kernel, rfl, by decide +kernel, by decide +kernel⟩
def spLookSt (K : PySem.W.Frag) : Sp := fun vs H Q _ => ∃ x ls g, vs = [x] ∧ Th K H x (bakD ⟨ls, none, [g]⟩) ∧ bakB (bakD ⟨ls, none, [g]⟩) = true ∧ Steady g ∧ ∀ H', Same H H' → Q .non H'
theorem ok_look_at_steady {f : Addr} {fd : FuncData} (F : Fun K "look_at_steady" "look_at_steady" s_look_at_steady f fd) (D_look_at_plain : Def P w K mg base "look_at_plain" 8 ["bakery"] (spPlain K .non)) (D_is_steady : Def P w K mg base "is_steady" 8 ["bakery"] (spIsSt K)) : FnOk P w K mg base CX0 9 f fd ["bakery"] (spLookSt K) := by
  refine F.ok sc_look_at_steady (fun vs H Q E h => ?_) (fun cdv A outer s H vs Q E hr h => ?_)
  · obtain ⟨_, _, _, rfl, _⟩ := h
    rfl
  · obtain ⟨x, ls, g, rfl, hx, hb, hst, q⟩ := h
    refine ⟨_, (pss_cons (ps_expr (pe_callD D_look_at_plain hr (by rfl) (pa_cons (pv 0) pa_nil)))
 (pss_one (ps_if (pt_not (pt_val (pe_callD D_is_steady hr (by rfl) (pa_cons (pv 0) pa_nil)))) (pss_one ps_never) pss_nil))), ?_⟩
    walk_at "wp"
    refine ⟨_, _, rfl, hx, hb, rfl, rfl, fun H1 s1 => ?_⟩
    refine ⟨_, ls, g, rfl, hx.same s1, hb, fun H2 r s2 hr2 => ?_⟩
    rw [hr2.mpr hst]
    walk_at "wp"
    exact q _ (s1.trans s2)
abbrev s_ends_with : Stmt := top 57
theorem sc_ends_with : FnScope ["row", "light", "prices", "first", "many", "stretch"] ["row", "light", "prices", "first", "many"] (defScope s_ends_with) := ⟨rfl, rfl, rfl, by decide +kernel, rfl, by decide +kernel, by decide +kernel⟩
def spEnds (K : PySem.W.Frag) : Sp := fun vs H Q _ => ∃ (ra pa : Addr) (xs : List V) (row : Nat → Int) (wf : Nat → Option Int) (light : Int) (n d j : Nat), vs = [.ref ra, .int light, .ref pa, .int (d : Int), .int (j : Int)] ∧ SqL K H ra xs ∧ SqL K H pa ((List.range n).map fun k => optV (wf k)) ∧ (∀ i, i ≤ j → xs[i]? = some (.int (row i))) ∧ d ≤ j ∧ j ≤ n ∧ n ≤ 1000 ∧
  ∀ (H' : Hp) (r : Bool), Same H H' → (r = true ↔ ∃ s, segP wf d (j - d) = some s ∧ row d + light + s = row j) → Q (.bl r) H'
theorem seg_list (wf : Nat → Option Int) {n d j : Nat} (h : j ≤ n) : (((List.range n).map fun k => optV (wf k)).drop d).take (j - d) = ((List.range (j - d)).map fun i => wf (d + i)).map optV := by
  apply List.ext_getElem?
  intro i
  rw [List.getElem?_take]
  by_cases hi : i < j - d
  · rw [if_pos hi, List.getElem?_drop, List.getElem?_map, List.getElem?_range (by omega), List.getElem?_map, List.getElem?_map, List.getElem?_range hi]
    rfl
  · rw [if_neg hi, List.getElem?_eq_none (by rw [List.length_map, List.length_map, List.length_range]; omega)]
theorem ok_ends_with {f : Addr} {fd : FuncData} (F : Fun K "ends_with" "ends_with" s_ends_with f fd) (B : Bi mg) : FnOk P w K mg base CX0 1 f fd ["row", "light", "prices", "first", "many"] (spEnds K) := by
  refine F.ok sc_ends_with (fun vs H Q E h => ?_) (fun cdv A outer s H vs Q E hr h => ?_)
  · obtain ⟨_, _, _, _, _, _, _, _, _, rfl, _⟩ := h
    rfl
  · obtain ⟨ra, pa, xs, row, wf, light, n, d, j, rfl, hra, hpa, hx, hdj, hjn, hn, q⟩ := h
    refine ⟨_, (pss_cons (ps_set (i := 5) sc_ends_with.nd rfl (Or.inl rfl) (pe_slice sl_list (pv 2) (po_some (pv 3)) (po_some (pv 4))))
 (pss_one (ps_ret (pe_and (pe_cmpR op_notIn_seq pe_non (pv 5) (by rfl)) (pe_one (pe_cmpR op_eq (pe_op op_add (pe_op op_add (pe_ix ix_list (pv 0) (pv 3) (fun _ _ => rfl)) (pv 1)) (pe_callB (cr_sum rfl) (by rfl) B.sum (by decide +kernel) (pa_cons (pv 5) pa_nil))) (pe_ix ix_list (pv 0) (pv 4) (fun _ _ => rfl)) (nomark _))))))), ?_⟩
    walk_at "wp"
    refine ⟨_, hpa, fun p hp => ?_⟩
    rw [cutV_nat, seg_list wf hjn]
    have S1 := same_upd (o := .lst (((List.range (j - d)).map fun i => wf (d + i)).map optV)) hp
    have E1 : upd H p (.lst (((List.range (j - d)).map fun i => wf (d + i)).map optV)) p = some (.lst (((List.range (j - d)).map fun i => wf (d + i)).map optV)) := upd_same
    generalize upd H p (.lst (((List.range (j - d)).map fun i => wf (d + i)).map optV)) = H1 at S1 E1 ⊢
    walk_at "wp"
    refine ⟨_, .inl (SqL.of E1), rfl, flat_opts _, ?_⟩
    cases hin : inV .non (((List.range (j - d)).map fun i => wf (d + i)).map optV) with
    | true =>
      walk_at "wp"
      refine q _ false S1 ⟨fun z => (by cases z), fun ⟨s, h1, _⟩ => ?_⟩
      have : segP wf d (j - d) = none := sumO_none hin
      rw [this] at h1
      cases h1
    | false =>
      obtain ⟨ns, e1, e2⟩ := sumO_some hin
      have e2 : segP wf d (j - d) = some ns.sum := e2
      rw [e1] at E1
      walk_at "wp"
      refine ⟨_, _, S1.seq hra, atI_nat (hx d hdj), ?_⟩
      walk_at "wp"
      refine ⟨ns, SqL.of E1, _, _, S1.seq hra, atI_nat (hx j (Nat.le_refl j)), ?_⟩
      walk_at "wp"
      refine q _ _ S1 ?_
      rw [decide_eq_true_eq]
      constructor
      · intro h
        exact ⟨_, e2, h⟩
      · rintro ⟨s, h1, h2⟩
        rw [e2] at h1
        cases h1
        exact h2
abbrev s_last_lit : Stmt := top 58
theorem sc_last_lit : FnScope ["row", "lights", "table", "wants", "many", "wanted", "day"] ["row", "lights", "table", "wants", "many"] (defScope s_last_lit) := ⟨rfl, rfl, rfl, by decide +kernel, rfl, by decide +kernel, by decide +kernel⟩
def spLast (K : PySem.W.Frag) : Sp := fun vs H Q _ => ∃ (ra la ta wa : Addr) (xs zs ts ws : List V) (row lights : Nat → Int) (g : Good) (n j : Nat), vs = [.ref ra, .ref la, .ref ta, .ref wa, .int (j : Int)] ∧ SqL K H ra xs ∧ SqL K H la zs ∧ SqL K H ta ts ∧ SqL K H wa ws ∧ (∀ i, i ≤ n → xs[i]? = some (.int (row i))) ∧ (∀ i, i < n → zs[i]? = some (.int (lights i))) ∧ (∀ i, i < n → ws[i]? = some (.int (wantN g i))) ∧
  (∀ b, b < n → ∃ p, ts[b]? = some (.ref p) ∧ SqL K H p ((List.range n).map fun k => optV (wantP g b k))) ∧ j ≤ n ∧ n ≤ 1000 ∧ ∀ (H' : Hp) (o : Option Nat), Same H H' → IsLast g lights row j o → Q (natV o) H'
def LsI (v0 v1 v2 v3 v4 : V) (g : Good) (lights row : Nat → Int) (j : Nat) (H : Hp) (i : Nat) (σ : L2.St) (H' : Hp) : Prop := (∃ y6, σ = [some v0, some v1, some v2, some v3, some v4, some (.int (sumN (fun x => wantN g (j - i + x)) i)), y6]) ∧ Same H H' ∧ ∀ d, j - i ≤ d → ¬ EndsAt g lights row j d
theorem sumN_front (f : Nat → Int) (a : Nat) : ∀ n, sumN (fun x => f (a + x)) (n + 1) = f a + sumN (fun x => f (a + 1 + x)) n
  | 0 => by show 0 + f (a + 0) = f a + 0; rw [Nat.add_zero]; omega
  | n + 1 => by
    have ih := sumN_front f a n
    show sumN (fun x => f (a + x)) (n + 1) + f (a + (n + 1)) = f a + (sumN (fun x => f (a + 1 + x)) n + f (a + 1 + n))
    rw [ih, show a + (n + 1) = a + 1 + n by omega]
    omega
theorem ok_last_lit {f : Addr} {fd : FuncData} (F : Fun K "last_lit" "last_lit" s_last_lit f fd) (B : Bi mg) (Br : mg "reversed" = none) (D_ends_with : Def P w K mg base "ends_with" 1 ["row", "light", "prices", "first", "many"] (spEnds K)) : FnOk P w K mg base CX0 2 f fd ["row", "lights", "table", "wants", "many"] (spLast K) := by
  refine F.ok sc_last_lit (fun vs H Q E h => ?_) (fun cdv A outer s H vs Q E hr h => ?_)
  · obtain ⟨_, _, _, _, _, _, _, _, _, _, _, _, _, rfl, _⟩ := h
    rfl
  · obtain ⟨ra, la, ta, wa, xs, zs, ts, ws, row, lights, g, n, j, rfl, hra, hla, hta, hwa, hx, hz, hw, ht, hjn, hn, q⟩ := h
    refine ⟨_, (pss_cons (ps_set (i := 5) sc_last_lit.nd rfl (Or.inl rfl) pe_int)
 (pss_cons (ps_for PassesOwn.never rfl (pi_revR (by rfl) Br (prg_1 (by rfl) B.range (pv 4))) (pg_name (i := 6) sc_last_lit.nd rfl (Or.inl rfl)) (pss_cons (ps_aug (i := 5) sc_last_lit.nd rfl (Or.inl rfl) (pe_ix ix_list (pv 3) (pv 6) (fun _ _ => rfl)) ip_add)
 (pss_one (ps_if (PW.pt (pw_and (pt_cmpR op_gt (pv 5) pe_int (nomark _)) (pw_and1 (pt_val (pe_callD D_ends_with hr (by rfl) (pa_cons (pv 0) (pa_cons (pe_ix ix_list (pv 1) (pv 6) (fun _ _ => rfl)) (pa_cons (pe_ix ix_list (pv 2) (pv 6) (fun _ _ => rfl)) (pa_cons (pv 6) (pa_cons (pv 4) pa_nil)))))))))) (pss_one (ps_ret (pv 6))) pss_nil))))
 (pss_one (ps_ret pe_non)))), ?_⟩
    walk_at "wp"
    refine ⟨by omega, by omega, by omega, by omega, ?_⟩
    rw [show ((j : Int) - 0).toNat = j by omega]
    refine LoopR.by walk_rangeC (LsI (.ref ra) (.ref la) (.ref ta) (.ref wa) (.int (j : Int)) g lights row j H) ⟨⟨_, rfl⟩, Same.refl _, fun d hd z => by have := z.1; omega⟩ (fun _ _ _ _ _ => trivial) (fun i v σ H0 H2 hi hI hY => ?_) (fun σ H2 hI => ?_)
    · obtain ⟨rfl, rfl⟩ := hY
      obtain ⟨⟨y6, rfl⟩, S2, hno⟩ := hI
      have ej : (j : Int) - 1 + (i : Int) * -1 = ((j - (i + 1) : Nat) : Int) := by omega
      dsimp only
      rw [ej]
      have esum : sumN (fun x => wantN g (j - i + x)) i + wantN g (j - (i + 1)) = sumN (fun x => wantN g (j - (i + 1) + x)) (i + 1) := by
        rw [sumN_front, show j - (i + 1) + 1 = j - i by omega]
        omega
      have hd : j - (i + 1) < j := by omega
      walk_at "wp"
      refine ⟨_, _, S2.seq hwa, atI_nat (hw (j - (i + 1)) (by omega)), ?_⟩
      walk_at "wp"
      rw [esum]
      have nx : ∀ H3, Same H H3 → ¬ EndsAt g lights row j (j - (i + 1)) → LsI (.ref ra) (.ref la) (.ref ta) (.ref wa) (.int (j : Int)) g lights row j H (i + 1) [some (.ref ra), some (.ref la), some (.ref ta), some (.ref wa), some (.int (j : Int)), some (.int (sumN (fun x => wantN g (j - (i + 1) + x)) (i + 1))), some (.int ((j - (i + 1) : Nat) : Int))] H3 := fun H3 S3 hne => ⟨⟨_, rfl⟩, S3, fun d hd z => by
        by_cases e : d = j - (i + 1)
        · subst e
          exact hne z
        · exact hno d (by omega) z⟩
      refine ite2 (fun h => ?_) (fun h => ?_)
      · have hpos : 0 < sumN (fun x => wantN g (j - (i + 1) + x)) (i + 1) := of_decide_eq_true h
        obtain ⟨p, e1, e2⟩ := ht (j - (i + 1)) (by omega)
        refine ⟨_, _, S2.seq hla, atI_nat (hz (j - (i + 1)) (by omega)), _, _, S2.seq hta, atI_nat e1, ?_⟩
        refine ⟨ra, p, xs, row, wantP g (j - (i + 1)), lights (j - (i + 1)), n, j - (i + 1), j, rfl, S2.seq hra, S2.seq e2, fun k hk => hx k (by omega), by omega, hjn, hn, fun H3 r s3 hr3 => ?_⟩
        have S3 := S2.trans s3
        cases r with
        | true =>
          walk_at "wp"
          obtain ⟨s, h1, h2⟩ := hr3.mp rfl
          exact q _ (some (j - (i + 1))) S3 ⟨⟨hd, by rw [show j - (j - (i + 1)) = i + 1 by omega]; exact hpos, s, h1, h2⟩, fun e he => hno e (by omega)⟩
        | false =>
          walk_at "wp"
          refine nx _ S3 fun z => ?_
          obtain ⟨_, _, s, h1, h2⟩ := z
          have := hr3.mpr ⟨s, h1, h2⟩
          cases this
      · refine nx _ S2 fun z => ?_
        have z2 := z.2.1
        rw [show j - (j - (i + 1)) = i + 1 by omega] at z2
        exact h (decide_eq_true z2)
    · obtain ⟨⟨y6, rfl⟩, S2, hno⟩ := hI
      walk_at "wp"
      exact q _ none S2 fun d z => hno d (by omega) z
abbrev s_last_lits : Stmt := top 59
theorem sc_last_lits : FnScope ["bakery", "lights", "bound", "goods", "days", "life", "row", "table", "wants", "want", "loaf", "keep", "fine", "many"] ["bakery"] (defScope s_last_lits) := ⟨rfl, rfl, rfl, by decide +kernel, rfl, by decide +kernel, by decide +kernel⟩
def spLasts (K : PySem.W.Frag) : Sp := fun vs H Q _ => ∃ x ls g, vs = [x] ∧ Th K H x (bakD ⟨ls, none, [g]⟩) ∧ bakB (bakD ⟨ls, none, [g]⟩) = true ∧ Steady g ∧ ∀ (H' : Hp) (p : Addr) (os : List (Option Nat)), Same H H' → H p = none → H' p = some (.lst (os.map natV)) → Lasts g ls os → Q (.ref p) H'
def LlI (g : Good) (lights row : Nat → Int) (D : Addr) (H : Hp) (i : Nat) (H' : Hp) : Prop := Same H H' ∧ ∃ os : List (Option Nat), H' D = some (.lst (os.map natV)) ∧ os.length = i ∧ ∀ j o, os[j]? = some o → IsLast g lights row j o
theorem ok_last_lits {f : Addr} {fd : FuncData} (F : Fun K "last_lits" "last_lits" s_last_lits f fd) (B : Bi mg) (D_look_at_steady : Def P w K mg base "look_at_steady" 9 ["bakery"] (spLookSt K)) (D_least_row : Def P w K mg base "least_row" 9 ["bakery"] (spRow K)) (D_wanted_table : Def P w K mg base "wanted_table" 4 ["good"] (spTable K)) (D_last_lit : Def P w K mg base "last_lit" 2 ["row", "lights", "table", "wants", "many"] (spLast K)) : FnOk P w K mg base CX0 10 f fd ["bakery"] (spLasts K) := by
  refine F.ok sc_last_lits (fun vs H Q E h => ?_) (fun cdv A outer s H vs Q E hr h => ?_)
  · obtain ⟨_, _, _, rfl, _⟩ := h
    rfl
  · obtain ⟨x, ls, g, rfl, hx, hb, hst, q⟩ := h
    refine ⟨_, (pss_cons (ps_expr (pe_callD D_look_at_steady hr (by rfl) (pa_cons (pv 0) pa_nil)))
 (pss_cons (ps_asg (pv 0) (pg_tup rfl (pgs_cons (pg_name (i := 1) sc_last_lits.nd rfl (Or.inr rfl)) (pgs_cons (pg_name (i := 2) sc_last_lits.nd rfl (Or.inl rfl)) (pgs_cons (pg_name (i := 3) sc_last_lits.nd rfl (Or.inl rfl)) pgs_nil)))))
 (pss_cons (ps_asg (pe_ix ix_list (pv 3) pe_int (fun _ _ => rfl)) (pg_tup rfl (pgs_cons (pg_name (i := 4) sc_last_lits.nd rfl (Or.inl rfl)) (pgs_cons (pg_name (i := 5) sc_last_lits.nd rfl (Or.inl rfl)) pgs_nil))))
 (pss_cons (ps_set (i := 6) sc_last_lits.nd rfl (Or.inr rfl) (pe_callD D_least_row hr (by rfl) (pa_cons (pv 0) pa_nil)))
 (pss_cons (ps_set (i := 7) sc_last_lits.nd rfl (Or.inr rfl) (pe_callD D_wanted_table hr (by rfl) (pa_cons (pe_ix ix_list (pv 3) pe_int (fun _ _ => rfl)) pa_nil)))
 (pss_cons (ps_set (i := 8) sc_last_lits.nd rfl (Or.inr rfl) (pe_lc (own := [("want", 9), ("loaf", 10), ("keep", 11), ("fine", 12)]) (g := (gTup K 4 (gCons (gName 9) (gCons (gName 10) (gCons (gName 11) (gCons (gName 12) gNil)))))) rfl sc_last_lits.nd (pi_list (pv 4)) (blkOk_by (own := [("want", 9), ("loaf", 10), ("keep", 11), ("fine", 12)]) (N := ["bakery", "lights", "bound", "goods", "days", "life", "row", "table", "wants", "want", "loaf", "keep", "fine", "many"]) (sc := defScope s_last_lits) (by decide +kernel)) (fun _ _ _ _ _ => (pg_tup rfl (pgs_cons (pg_name (i := 9) sc_last_lits.nd rfl (Or.inl rfl)) (pgs_cons (pg_name (i := 10) sc_last_lits.nd rfl (Or.inl rfl)) (pgs_cons (pg_name (i := 11) sc_last_lits.nd rfl (Or.inl rfl)) (pgs_cons (pg_name (i := 12) sc_last_lits.nd rfl (Or.inl rfl)) pgs_nil)))))) (fun _ _ _ _ _ => pts_nil) (fun _ _ _ _ _ => (pv 9))))
 (pss_one (ps_ret (pe_lc (own := [("many", 13)]) (g := (gName 13)) rfl sc_last_lits.nd (pi_range1 (by rfl) B.range (pa_cons (pe_op op_add (pe_callB call_lnL (by rfl) B.len (by decide +kernel) (pa_cons (pv 1) pa_nil)) pe_int) pa_nil)) (blkOk_by (own := [("many", 13)]) (N := ["bakery", "lights", "bound", "goods", "days", "life", "row", "table", "wants", "want", "loaf", "keep", "fine", "many"]) (sc := defScope s_last_lits) (by decide +kernel)) (fun _ _ _ _ _ => (pg_name (i := 13) sc_last_lits.nd rfl (Or.inl rfl))) (fun _ _ _ _ _ => pts_nil) (fun _ _ _ _ _ => (pe_callD D_last_lit hr (by rfl) (pa_cons (pv 6) (pa_cons (pv 1) (pa_cons (pv 7) (pa_cons (pv 8) (pa_cons (pv 13) pa_nil)))))))))))))))), ?_⟩
    obtain ⟨⟨c1, c2⟩, c3, _, _, c7⟩ := bak_parts hb
    obtain ⟨c8, c9, hok⟩ := c7 g (List.mem_singleton.mpr rfl)
    dsimp only at c1 c2 c3 c8
    walk_at "wp"
    refine ⟨_, ls, g, rfl, hx, hb, hst, fun H1 s1 => ?_⟩
    have hx1 := hx.same s1
    have hx1' := hx1
    obtain ⟨a, l, v2, ga, xl, xg, rfl, ht, hl, hla, h2, hgl, hga⟩ := Th.bak hx1
    obtain ⟨vg, hv, hvg⟩ := hga.get' (i := 0) (d := goodD g) rfl
    have hvg0 := hvg
    obtain ⟨tg, ad, xs, rfl, htg, hsg, hag⟩ := hvg.good
    have hxl : xl = ls.map V.int := hla.intsV
    have hln : xl.length = ls.length := by rw [hxl, List.length_map]
    have hxs := hag.length
    rw [List.length_map] at hxs
    walk_at "wp"
    refine ⟨_, ht, rfl, ?_⟩
    walk_at "wp"
    refine ⟨_, _, hgl, atI_nat (j := 0) hv, ?_⟩
    walk_at "wp"
    refine ⟨_, htg, rfl, ?_⟩
    walk_at "wp"
    refine ⟨_, ls, g, rfl, hx1', hb, fun H2 pr rs s2 _ hpr hrl hR => ?_⟩
    walk_at "wp"
    refine ⟨_, _, s2.seq hgl, atI_nat (j := 0) hv, ?_⟩
    refine ⟨_, g, rfl, hvg0.same s2, hok, by omega, fun H3 Dt acc s3 hD0 hacc hrow => ?_⟩
    obtain ⟨hal, hrow⟩ := hrow
    have s13 := s2.trans s3
    walk_at "wp"
    refine ⟨⟨_, s13.seq hsg⟩, fun D hD => ?_⟩
    refine LcR.map (walk_list (xs := xs)) ((g.days.map fun d => d.want).map V.int) hD (by rw [List.length_map, List.length_map, hxs]) (by omega) (fun H s => (s13.trans s).seq hsg) (fun _ _ _ _ y => yat_same y) (fun i x y H0 H4 hi s4 yy hy R hR2 => ?_) (fun H4 s4 hH4 => ?_)
    · obtain ⟨rfl, hx⟩ := yy
      obtain ⟨dd, hdd, hxd⟩ := hag.get hx
      rw [List.getElem?_map] at hdd
      rw [List.getElem?_map, List.getElem?_map] at hy
      cases hc : g.days[i]? with
      | none => rw [hc] at hdd; cases hdd
      | some c =>
        rw [hc] at hdd hy
        cases hdd
        cases hy
        obtain ⟨t, rfl, ht⟩ := (hxd.same (s13.trans s4)).day
        walk_at "wp"
        refine ⟨_, ht, rfl, ?_⟩
        walk_at "wp"
        exact hR2 _ (Same.refl _)
    · have s14 := s13.trans s4
      walk_at "wp"
      refine ⟨_, s14.seq hl, ?_⟩
      walk_at "wp"
      refine ⟨by omega, by omega, fun D2 hD2 => ?_⟩
      rw [show ((xl.length : Int) + 1).toNat = ls.length + 1 by omega]
      refine LcR.by walk_range (LlI g (rowF ls) (rowF rs) D2 H4) ⟨same_upd hD2, [], upd_same, rfl, fun j o e => by cases e⟩ (fun _ _ _ _ => trivial) (fun i v H0 H5 hi hI yy => ?_) (fun H5 hI => ?_)
      · obtain ⟨rfl, rfl⟩ := yy
        obtain ⟨S5, os, hos, hol, hop⟩ := hI
        have s35 := s4.trans S5
        walk_at "wp"
        refine ⟨pr, l, Dt, D, rs.map V.int, xl, acc, (g.days.map fun d => d.want).map V.int, rowF rs, rowF ls, g, ls.length, i, rfl, SqL.of ((s3.trans s35) _ _ hpr), (s14.trans S5).seq hl, SqL.of (s35 _ _ hacc), SqL.of (S5 _ _ hH4), fun k hk => rowF_get (by omega), fun k hk => by rw [hxl]; exact rowF_get (by omega), fun k hk => ?_, fun b hb' => ?_, by omega, by omega, fun H6 o s6 ho => ?_⟩
        · have hd : g.days[k]? = some g.days[k] := List.getElem?_eq_getElem (by omega)
          rw [List.getElem?_map, List.getElem?_map, hd, wantN_at hd]
          rfl
        · obtain ⟨p2, e1, e3⟩ := hrow b (by omega)
          exact ⟨p2, e1, SqL.of (by rw [← c8]; exact s35 _ _ e3)⟩
        · refine ⟨_, s6 _ _ hos, sz100l (by rw [List.length_map]; omega), same_mut (S5.trans s6) hD2, os ++ [o], by rw [upd_same, List.map_append]; rfl, by rw [List.length_append, hol]; rfl, fun j o' e => ?_⟩
          by_cases hj : j < os.length
          · rw [List.getElem?_append_left hj] at e
            exact hop j o' e
          · rw [List.getElem?_append_right (by omega)] at e
            have ej : j = i := by
              have := (List.getElem?_eq_some_iff.mp e).1
              have : j - os.length < 1 := this
              omega
            subst ej
            rw [hol, Nat.sub_self] at e
            cases e
            exact ho
      · obtain ⟨S5, os, hos, hol, hop⟩ := hI
        have s15 := s1.trans (s14.trans S5)
        exact q _ D2 os s15 ((s1.trans s14).free hD2) hos ⟨hol, rowF rs, hR, hop⟩
end
end Bk

namespace Bk
open PySem PySem.Spec PyProof.Rows L2
local macro_rules | `(tactic| walk_at "wp") => `(tactic| try simp only [Int.zero_add, tNever, tFor_eq, tLc_eq, iList, iTup, iRng1_eq, rRng1_i, iRng2_eq, rRng2_i, iEnum_eq, rEnum_r, iZip_eq, rZip_r, tSl, tPart, tNoPart, rSlL_r, rCat_r, rIn_r, rNin_r, rRepr_r, iRevR, rMin_r, rShr_i, rOdd_i, rSetL_r, gSub, rRg1_i, rRg2_i, rInr_r, tAug, ipI_ii, tLstRg, tRg1, tRg2, gTup_r, gUnl_r, rInt1_b, rInt1_i, rRep_r, tStep_r, scal, tSeq, tNext, tAsg, tRet, tRetN, tIfS, tDrop, tCB, tCons, tNil, tVar, tOp, tUn, tC, rU_i, rI_ii, rI0_ii, rEq, rNe, tTest, tB, tAnd, tOr, tNot, tAndV, tOrV, tNotV, tIf, tChain, tLst, tTup, tBM, tBM0, rAppend_r, rIxL_r, rIxT_r, rMx_ii, rMn_ii, rLnL_r, rLnT_r, rIsD_int, rIsD_bool, rIsD_list, rIsD_tuple, tCall, gName, gNil_n, gCons_c, cxK, L2.start, List.map, List.replicate, List.length_cons, List.length_nil, List.cons_append, List.nil_append, List.append_nil, List.getElem?_cons_zero, List.getElem?_cons_succ, Option.some.injEq, exists_eq_left', exists_eq_left, V.int.injEq, V.bl.injEq, V.str.injEq, V.ref.injEq, List.cons.injEq, and_true, true_and, and_self, List.set, wipe, rAll_r, rSum_r, reduceCtorEq, decide_true, decide_false, reduceIte, ite_true, ite_false, if_true, if_false, Bool.false_eq_true, Bool.not_true, Bool.not_false])
local macro_rules | `(tactic| walk_at "shaped") => `(tactic| (simp only [SeqAt.shaped, PyData.canLay0, PyData.canLayAll0, PyData.depth, PyData.depthAll]; rfl))
local macro_rules | `(tactic| walk_at "lay") => `(tactic| (simp only [PyData.canLay0, PyData.canLayAll0]; rfl))
section
variable {P : Program} {w : World} {K : PySem.W.Frag} {mg : Str → Option Value} {base : Heap}
end
end Bk

namespace Bk
open PySem PySem.Spec PyProof.Rows L2
local macro_rules | `(tactic| walk_at "wp") => `(tactic| try simp only [Int.zero_add, tNever, tFor_eq, tLc_eq, iList, iTup, iRng1_eq, rRng1_i, iRng2_eq, rRng2_i, iEnum_eq, rEnum_r, iZip_eq, rZip_r, tSl, tPart, tNoPart, rSlL_r, rCat_r, rIn_r, rNin_r, rRepr_r, iRevR, rMin_r, rShr_i, rOdd_i, rSetL_r, gSub, rRg1_i, rRg2_i, rInr_r, tAug, ipI_ii, tLstRg, tRg1, tRg2, gTup_r, gUnl_r, rInt1_b, rInt1_i, rRep_r, tStep_r, scal, tSeq, tNext, tAsg, tRet, tRetN, tIfS, tDrop, tCB, tCons, tNil, tVar, tOp, tUn, tC, rU_i, rI_ii, rI0_ii, rEq, rNe, tTest, tB, tAnd, tOr, tNot, tAndV, tOrV, tNotV, tIf, tChain, tLst, tTup, tBM, tBM0, rAppend_r, rIxL_r, rIxT_r, rMx_ii, rMn_ii, rLnL_r, rLnT_r, rIsD_int, rIsD_bool, rIsD_list, rIsD_tuple, tCall, gName, gNil_n, gCons_c, cxK, L2.start, List.map, List.replicate, List.length_cons, List.length_nil, List.cons_append, List.nil_append, List.append_nil, List.getElem?_cons_zero, List.getElem?_cons_succ, Option.some.injEq, exists_eq_left', exists_eq_left, V.int.injEq, V.bl.injEq, V.str.injEq, V.ref.injEq, List.cons.injEq, and_true, true_and, and_self, List.set, wipe, rAll_r, rSum_r, reduceCtorEq, decide_true, decide_false, reduceIte, ite_true, ite_false, if_true, if_false, Bool.false_eq_true, Bool.not_true, Bool.not_false])
local macro_rules | `(tactic| walk_at "shaped") => `(tactic| (simp only [SeqAt.shaped, PyData.canLay0, PyData.canLayAll0, PyData.depth, PyData.depthAll]; rfl))
local macro_rules | `(tactic| walk_at "lay") => `(tactic| (simp only [PyData.canLay0, PyData.canLayAll0]; rfl))
section
variable {P : Program} {w : World} {K : PySem.W.Frag} {mg : Str → Option Value} {base : Heap}
abbrev s_anywhere_row : Stmt := top 50
theorem sc_anywhere_row : FnScope ["bakery", "lights", "bound", "goods", "table", "ovens", "row", "many"] ["bakery"] (defScope s_anywhere_row) := ⟨rfl, rfl, rfl, by decide +kernel, rfl, by decide +kernel, by decide +kernel⟩
def spAny (K : PySem.W.Frag) : Sp := fun vs H Q _ => ∃ x ls g, vs = [x] ∧ Th K H x (bakD ⟨ls, none, [g]⟩) ∧ bakB (bakD ⟨ls, none, [g]⟩) = true ∧ ∀ (H' : Hp) (p : Addr) (rs : List Int), Same H H' → H p = none → H' p = some (.lst (rs.map V.int)) → rs.length = ls.length + 1 → IsAny g (rowF ls) (rowF rs) ls.length ls.length → Q (.ref p) H'
def AnyI (v0 v1 v2 v3 v4 v5 : V) (p : Addr) (g : Good) (ls : List Int) (H : Hp) (i : Nat) (σ : L2.St) (H' : Hp) : Prop := (∃ y7, σ = [some v0, some v1, some v2, some v3, some v4, some v5, some (.ref p), y7]) ∧ Same H H' ∧ ∃ rs : List Int, H' p = some (.lst (rs.map V.int)) ∧ rs.length = i + 1 ∧ IsAny g (rowF ls) (rowF rs) ls.length i
theorem ok_anywhere_row {f : Addr} {fd : FuncData} (F : Fun K "anywhere_row" "anywhere_row" s_anywhere_row f fd) (B : Bi mg) (D_wanted_table : Def P w K mg base "wanted_table" 4 ["good"] (spTable K))
    (D_least_of : Def P w K mg base "least_of" 2 ["row", "lights", "table", "many", "ovens"] (spLeastOf K)) (D_is_unwanted : Def P w K mg base "is_unwanted" 1 ["good", "day"] (spUnw K)) : FnOk P w K mg base CX0 5 f fd ["bakery"] (spAny K) := by
  refine F.ok sc_anywhere_row (fun vs H Q E h => ?_) (fun cdv A outer s H vs Q E hr h => ?_)
  · obtain ⟨x, ls, g, rfl, _⟩ := h
    rfl
  · obtain ⟨x, ls, g, rfl, hx, hb, q⟩ := h
    refine ⟨_, (pss_cons (ps_asg (pv 0) (pg_tup rfl (pgs_cons (pg_name (i := 1) sc_anywhere_row.nd rfl (Or.inl rfl)) (pgs_cons (pg_name (i := 2) sc_anywhere_row.nd rfl (Or.inl rfl)) (pgs_cons (pg_name (i := 3) sc_anywhere_row.nd rfl (Or.inl rfl)) pgs_nil)))))
 (pss_cons (ps_set (i := 4) sc_anywhere_row.nd rfl (Or.inl rfl) (pe_callD D_wanted_table hr (by rfl) (pa_cons (pe_ix ix_list (pv 3) pe_int (fun _ _ => rfl)) pa_nil)))
 (pss_cons (ps_set (i := 5) sc_anywhere_row.nd rfl (Or.inl rfl) (pe_listRg rfl (by rfl) B.list (prg_1 (by rfl) B.range (pe_callB call_lnL (by rfl) B.len (by decide +kernel) (pa_cons (pv 1) pa_nil)))))
 (pss_cons (ps_set (i := 6) sc_anywhere_row.nd rfl (Or.inl rfl) (pe_lst (pa_cons pe_int pa_nil)))
 (pss_cons (ps_for PassesOwn.never rfl (pi_range2 (by rfl) B.range (pa_cons pe_int (pa_cons (pe_op op_add (pe_callB call_lnL (by rfl) B.len (by decide +kernel) (pa_cons (pv 1) pa_nil)) pe_int) pa_nil))) (pg_name (i := 7) sc_anywhere_row.nd rfl (Or.inl rfl)) (pss_one (ps_if (pt_val (pe_callD D_is_unwanted hr (by rfl) (pa_cons (pe_ix ix_list (pv 3) pe_int (fun _ _ => rfl)) (pa_cons (pe_op op_sub (pv 7) pe_int) pa_nil)))) (pss_one (ps_expr (pe_bm PySem.F.plainAttrs_list PySem.F.slot_list_append PySem.F.type_list_append mt_append (pv 6) (pa_cons (pe_ix ix_list (pv 6) (pe_op op_sub (pv 7) pe_int) (fun _ _ => rfl)) pa_nil)))) (pss_one (ps_expr (pe_bm PySem.F.plainAttrs_list PySem.F.slot_list_append PySem.F.type_list_append mt_append (pv 6) (pa_cons (pe_callD D_least_of hr (by rfl) (pa_cons (pv 6) (pa_cons (pv 1) (pa_cons (pv 4) (pa_cons (pv 7) (pa_cons (pv 5) pa_nil)))))) pa_nil)))))))
 (pss_one (ps_ret (pv 6)))))))), ?_⟩
    obtain ⟨⟨c1, c2⟩, c3, _, _, c7⟩ := bak_parts hb
    obtain ⟨c8, c9, hok⟩ := c7 g (List.mem_singleton.mpr rfl)
    dsimp only at c1 c2 c3 c8
    obtain ⟨a, l, v2, ga, xl, xg, rfl, ht, hl, hla, h2, hgl, hga⟩ := Th.bak hx
    obtain ⟨vg, hv, hvg⟩ := hga.get' (i := 0) (d := goodD g) rfl
    have hln := hla.length
    rw [List.length_map] at hln
    dsimp only at hln
    walk_at "wp"
    refine ⟨_, ht, rfl, ?_⟩
    walk_at "wp"
    refine ⟨_, _, hgl, atI_nat hv, ?_⟩
    refine ⟨_, g, rfl, hvg, hok, by omega, fun H4 D acc s4 hD0 hacc hrow => ?_⟩
    obtain ⟨hal, hrow⟩ := hrow
    walk_at "wp"
    refine ⟨_, s4.seq hl, ?_⟩
    walk_at "wp"
    refine ⟨RgOk.of_le (by omega) (by omega) (by omega) (by omega), fun oa hoa0 => ?_⟩
    have so := same_upd (o := .lst (rgV 0 ((xl.length : Nat) : Int))) hoa0
    have hoa : upd H4 oa (.lst (rgV 0 ((xl.length : Nat) : Int))) oa = some (.lst ((List.range xl.length).map fun j : Nat => V.int (j : Int))) := by rw [upd_same, rgV_zero]
    generalize upd H4 oa (.lst (rgV 0 ((xl.length : Nat) : Int))) = H5 at so hoa ⊢
    rw [show xl.length = ls.length by omega] at hoa
    have s5 := s4.trans so
    walk_at "wp"
    refine ⟨sz100 (by decide), fun p hp => ⟨_, (same_upd hp).seq (s5.seq hl), ?_⟩⟩
    walk_at "wp"
    refine ⟨⟨by omega, by omega, by omega, by omega⟩, ?_⟩
    have hHp : H p = none := s5.free hp
    rw [show ((xl.length : Int) + 1 - 1).toNat = ls.length by omega]
    refine LoopR.by walk_range (AnyI (.ref a) (.ref l) v2 (.ref ga) (.ref D) (.ref oa) p g ls H5) ⟨⟨_, rfl⟩, same_upd hp, [0], upd_same, rfl, IsAny.init _ _ _⟩ (fun _ _ _ _ _ => trivial) (fun i v σ H0 H6 hi hI yy => ?_) (fun σ H6 hI => ?_)
    · obtain ⟨rfl, rfl⟩ := yy
      obtain ⟨⟨y7, rfl⟩, s6, rs, hrs, hrl, hR⟩ := hI
      have hxl : xl = ls.map V.int := hla.intsV
      have ei : (1 : Int) + (i : Int) = ((i + 1 : Nat) : Int) := by omega
      have hdi : i < g.days.length := by omega
      have hd : g.days[i]? = some g.days[i] := List.getElem?_eq_getElem hdi
      generalize g.days[i] = d at hd
      have ew := wantN_at hd
      have s56 := s5.trans s6
      have hlen : (rs.map V.int).length < sizeLine := sz100l (by rw [List.length_map]; omega)
      dsimp only
      rw [ei]
      walk_at "wp"
      refine ⟨_, _, s56.seq hgl, atI_nat hv, ?_⟩
      refine ⟨_, g, d, i, by rw [show ((i + 1 : Nat) : Int) - 1 = (i : Int) by omega], hvg.same s56, hd, ?_⟩
      walk_at "wp"
      refine ite2 (fun h => ?_) (fun h => ?_)
      · have hw : d.want = 0 := of_decide_eq_true h
        refine ⟨tyL (SqL.of hrs), _, _, SqL.of hrs, by rw [show ((i + 1 : Nat) : Int) - 1 = (i : Int) by omega]; exact atI_nat (rowF_get (by omega)), ?_⟩
        refine ⟨_, hrs, hlen, ⟨_, rfl⟩, same_mut s6 hp, rs ++ [rowF rs i], by rw [upd_same, List.map_append]; rfl, by rw [List.length_append, hrl]; rfl, hR.snoc hrl (fun _ => rfl) fun z => absurd (ew.trans hw) z⟩
      · have hw : ¬ d.want = 0 := fun z => h (decide_eq_true z)
        refine ⟨tyL (SqL.of hrs), p, l, D, oa, rs.map V.int, xl, acc, rowF rs, rowF ls, wantP g, i, ls.length, rfl, SqL.of hrs, s56.seq hl, SqL.of ((so.trans s6) _ _ hacc), SqL.of (s6 _ _ hoa), fun j hj => rowF_get (by omega), fun j hj => by rw [hxl]; exact rowF_get (by omega), fun j hj => ?_, by omega, by omega, ⟨_, own_chC (by omega) hd (life_ok c9)⟩, fun v H7 s7 hv hmin => ?_⟩
        · obtain ⟨p2, e1, e3⟩ := hrow j (by omega)
          refine ⟨p2, _, e1, SqL.of ((so.trans s6) _ _ e3), fun k hk => ?_⟩
          rw [List.getElem?_map, List.getElem?_range (by omega)]
          rfl
        · have hrs7 := s7 _ _ hrs
          exact ⟨_, hrs7, hlen, ⟨_, rfl⟩, same_mut (s6.trans s7) hp, rs ++ [v], by rw [upd_same, List.map_append]; rfl, by rw [List.length_append, hrl]; rfl, hR.snoc hrl (fun z => absurd (ew.symm.trans z) hw) fun _ => ⟨hv, hmin⟩⟩
    · obtain ⟨⟨y7, rfl⟩, s6, rs, hrs, hrl, hR⟩ := hI
      walk_at "wp"
      exact q _ p rs (s5.trans s6) hHp hrs hrl hR
abbrev s_prices_of : Stmt := top 51
theorem sc_prices_of : FnScope ["bakery", "row", "ahead", "behind"] ["bakery"] (defScope s_prices_of) := ⟨rfl, rfl, rfl, by decide +kernel, rfl, by decide +kernel, by decide +kernel⟩
def spPrices (K : PySem.W.Frag) : Sp := fun vs H Q _ => ∃ x ls g, vs = [x] ∧ Th K H x (bakD ⟨ls, none, [g]⟩) ∧ bakB (bakD ⟨ls, none, [g]⟩) = true ∧ ∀ (H' : Hp) (p : Addr) (ps : List Int), Same H H' → H p = none → H' p = some (.lst (ps.map V.int)) → IsPrices g (rowF ls) ps ls.length → Q (.ref p) H'
theorem ok_prices_of {f : Addr} {fd : FuncData} (F : Fun K "prices_of" "prices_of" s_prices_of f fd) (B : Bi mg) (Bz : mg "zip" = none) (D_look_at_plain : Def P w K mg base "look_at_plain" 8 ["bakery"] (spPlain K .non)) (D_anywhere_row : Def P w K mg base "anywhere_row" 5 ["bakery"] (spAny K)) : FnOk P w K mg base CX0 9 f fd ["bakery"] (spPrices K) := by
  refine F.ok sc_prices_of (fun vs H Q E h => ?_) (fun cdv A outer s H vs Q E hr h => ?_)
  · obtain ⟨x, ls, g, rfl, _⟩ := h
    rfl
  · obtain ⟨x, ls, g, rfl, hx, hb, q⟩ := h
    refine ⟨_, (pss_cons (ps_expr (pe_callD D_look_at_plain hr (by rfl) (pa_cons (pv 0) pa_nil)))
 (pss_cons (ps_set (i := 1) sc_prices_of.nd rfl (Or.inl rfl) (pe_callD D_anywhere_row hr (by rfl) (pa_cons (pv 0) pa_nil)))
 (pss_one (ps_ret (pe_lc (own := [("ahead", 2), ("behind", 3)]) (g := (gTup K 2 (gCons (gName 2) (gCons (gName 3) gNil)))) rfl sc_prices_of.nd (pi_zip (by rfl) Bz (pa_cons (pv 1) (pa_cons (pe_slice sl_list (pv 1) (po_some pe_int) po_none) pa_nil))) (blkOk_by (own := [("ahead", 2), ("behind", 3)]) (N := ["bakery", "row", "ahead", "behind"]) (sc := defScope s_prices_of) (by decide +kernel)) (fun _ _ _ _ _ => (pg_tup rfl (pgs_cons (pg_name (i := 2) sc_prices_of.nd rfl (Or.inl rfl)) (pgs_cons (pg_name (i := 3) sc_prices_of.nd rfl (Or.inl rfl)) pgs_nil)))) (fun _ _ _ _ _ => pts_nil) (fun _ _ _ _ _ => (pe_op op_sub (pv 3) (pv 2)))))))), ?_⟩
    obtain ⟨⟨c1, c2⟩, c3, _, _, c7⟩ := bak_parts hb
    dsimp only at c1 c2 c3
    walk_at "wp"
    refine ⟨_, _, rfl, hx, hb, rfl, rfl, fun H1 s1 => ?_⟩
    refine ⟨_, ls, g, rfl, hx.same s1, hb, fun H2 p rs s2 hp0 hp hrl hR => ?_⟩
    walk_at "wp"
    refine ⟨_, SqL.of hp, fun t ht => ?_⟩
    rw [show cutV (rs.map V.int) (some 1) none = (rs.drop 1).map V.int by rw [List.map_drop]; exact cutV_from _ 1]
    have S3 := same_upd (o := .lst ((rs.drop 1).map V.int)) ht
    have E3 : upd H2 t (.lst ((rs.drop 1).map V.int)) t = some (.lst ((rs.drop 1).map V.int)) := upd_same
    generalize upd H2 t (.lst ((rs.drop 1).map V.int)) = H3 at S3 E3 ⊢
    have hp3 := S3 _ _ hp
    refine ⟨_, _, SqL.of hp3, SqL.of E3, fun D hD => ?_⟩
    have S13 := s1.trans (s2.trans S3)
    let ds : List Int := (List.range ls.length).map fun k => rowF rs (k + 1) - rowF rs k
    have hds : ds.length = ls.length := by show ((List.range ls.length).map _).length = _; rw [List.length_map, List.length_range]
    refine LcR.map (walk_zip (n := ls.length) (xs := rs.map V.int) (ys := (rs.drop 1).map V.int) (by rw [List.length_map, List.length_map, List.length_drop, hrl]; omega)) (ds.map V.int) hD (by rw [List.length_map]; exact hds) (by omega) (fun H s => ⟨s.seq (SqL.of hp3), s.seq (SqL.of E3)⟩) (fun _ _ _ _ y => ypair_same y) (fun i x y H0 H4 hi s4 yy hy R hR2 => ?_) (fun H4 s4 hH => ?_)
    · obtain ⟨T, z1, z2, rfl, hT, rfl, e1, e2⟩ := yy
      have e1 : (rs.map V.int)[i]? = some z1 := e1
      have e2 : ((rs.drop 1).map V.int)[i]? = some z2 := e2
      rw [rowF_get (by omega)] at e1
      cases e1
      rw [List.map_drop, List.getElem?_drop, Nat.add_comm 1 i, rowF_get (by omega)] at e2
      cases e2
      rw [List.getElem?_map, List.getElem?_map, List.getElem?_range hi] at hy
      cases hy
      walk_at "wp"
      refine ⟨_, SqT.of upd_same, rfl, ?_⟩
      walk_at "wp"
      exact hR2 _ (Same.refl _)
    · refine q _ D ds (S13.trans s4) (S13.free hD) hH ⟨hds, rowF rs, hR, fun k hk => ?_⟩
      unfold rowF
      rw [List.getD_eq_getElem?_getD, List.getElem?_map, List.getElem?_range hk]
      rfl
end
end Bk

namespace Bk
open PySem PySem.Spec PyProof.Rows L2
local macro_rules | `(tactic| walk_at "wp") => `(tactic| try simp only [Int.zero_add, tNever, tFor_eq, tLc_eq, iList, iTup, iRng1_eq, rRng1_i, iRng2_eq, rRng2_i, iEnum_eq, rEnum_r, iZip_eq, rZip_r, tSl, tPart, tNoPart, rSlL_r, rCat_r, rIn_r, rNin_r, rRepr_r, iRevR, rMin_r, rShr_i, rOdd_i, rSetL_r, gSub, rRg1_i, rRg2_i, rInr_r, tAug, ipI_ii, tLstRg, tRg1, tRg2, gTup_r, gUnl_r, rInt1_b, rInt1_i, rRep_r, tStep_r, scal, tSeq, tNext, tAsg, tRet, tRetN, tIfS, tDrop, tCB, tCons, tNil, tVar, tOp, tUn, tC, rU_i, rI_ii, rI0_ii, rEq, rNe, tTest, tB, tAnd, tOr, tNot, tAndV, tOrV, tNotV, tIf, tChain, tLst, tTup, tBM, tBM0, rAppend_r, rIxL_r, rIxT_r, rMx_ii, rMn_ii, rLnL_r, rLnT_r, rIsD_int, rIsD_bool, rIsD_list, rIsD_tuple, tCall, gName, gNil_n, gCons_c, cxK, L2.start, List.map, List.replicate, List.length_cons, List.length_nil, List.cons_append, List.nil_append, List.append_nil, List.getElem?_cons_zero, List.getElem?_cons_succ, Option.some.injEq, exists_eq_left', exists_eq_left, V.int.injEq, V.bl.injEq, V.str.injEq, V.ref.injEq, List.cons.injEq, and_true, true_and, and_self, List.set, wipe, rAll_r, rSum_r, reduceCtorEq, decide_true, decide_false, reduceIte, ite_true, ite_false, if_true, if_false, Bool.false_eq_true, Bool.not_true, Bool.not_false])
local macro_rules | `(tactic| walk_at "shaped") => `(tactic| (simp only [SeqAt.shaped, PyData.canLay0, PyData.canLayAll0, PyData.depth, PyData.depthAll]; rfl))
local macro_rules | `(tactic| walk_at "lay") => `(tactic| (simp only [PyData.canLay0, PyData.canLayAll0]; rfl))
section
variable {P : Program} {w : World} {K : PySem.W.Frag} {mg : Str → Option Value} {base : Heap}
abbrev s_are_whole : Stmt := top 15
theorem sc_are_whole : FnScope ["thing", "many", "each"] ["thing", "many"] (defScope s_are_whole) := ⟨rfl, rfl, rfl, by decide +kernel, rfl, by decide +kernel, by decide +kernel⟩
def spAreW (K : PySem.W.Frag) : Sp := fun vs H Q _ => ∃ (y : V) (n : Nat) (d : PyData), vs = [y, .int (n : Int)] ∧ n ≤ 1000 ∧ Th K H y d ∧ ∀ (H' : Hp) (r : Bool), Same H H' → (r = true ↔ ∃ ns : List Int, d = .list (ns.map PyData.int) ∧ ns.length = n) → Q (.bl r) H'
theorem ok_are_whole {f : Addr} {fd : FuncData} (F : Fun K "are_whole" "are_whole" s_are_whole f fd) (B : Bi mg) (D_is_list_of : Def P w K mg base "is_list_of" 1 ["thing", "fewest", "most"] (spListOf K)) (D_is_whole : Def P w K mg base "is_whole" 1 ["thing"] (spWhole K)) : FnOk P w K mg base CX0 2 f fd ["thing", "many"] (spAreW K) := by
  refine F.ok sc_are_whole (fun vs H Q E h => ?_) (fun cdv A outer s H vs Q E hr h => ?_)
  · obtain ⟨_, _, _, rfl, _⟩ := h
    rfl
  · obtain ⟨y, n, d, rfl, hn, hy, q⟩ := h
    refine ⟨_, (pss_one (ps_ret (pe_and (pe_callD D_is_list_of hr (by rfl) (pa_cons (pv 0) (pa_cons (pv 1) (pa_cons (pv 1) pa_nil)))) (pe_one (pe_callB (cr_all rfl) (by rfl) B.all (by decide +kernel) (pa_cons (pe_lc (own := [("each", 2)]) (g := (gName 2)) rfl sc_are_whole.nd (pi_list (pv 0)) (blkOk_by (own := [("each", 2)]) (N := ["thing", "many", "each"]) (sc := defScope s_are_whole) (by decide +kernel)) (fun _ _ _ _ _ => (pg_name (i := 2) sc_are_whole.nd rfl (Or.inl rfl))) (fun _ _ _ _ _ => pts_nil) (fun _ _ _ _ _ => (pe_callD D_is_whole hr (by rfl) (pa_cons (pv 2) pa_nil)))) pa_nil)))))), ?_⟩
    have no : ∀ H1, Same H H1 → (∀ ns : List Int, d = .list (ns.map PyData.int) → ns.length = n → False) → Q (.bl false) H1 := fun H1 s h => q H1 false s ⟨fun z => (by cases z), fun ⟨ns, z1, z2⟩ => (h ns z1 z2).elim⟩
    walk_at "wp"
    refine ⟨y, d, n, n, rfl, hy, ?_⟩
    walk_at "wp"
    cases hl : listB n n d with
    | false =>
      walk_at "wp"
      refine no _ (Same.refl _) fun ns z1 z2 => ?_
      rw [z1] at hl
      simp only [listB, List.length_map, z2, Nat.le_refl, decide_true, Bool.and_self] at hl
      cases hl
    | true =>
      cases hy with
      | lst hp hpa =>
        rename_i p ys ds
        have hl2 := Bool.and_eq_true_iff.mp hl
        have hdl : ds.length = n := by
          have h1 := of_decide_eq_true hl2.1
          have h2 := of_decide_eq_true hl2.2
          omega
        have hyl := hpa.length
        walk_at "wp"
        refine ⟨⟨_, hp⟩, fun D hD => ?_⟩
        refine LcR.map (walk_list (xs := ys)) ((ds.map wholeD).map V.bl) hD (by rw [List.length_map, List.length_map, hyl]) (by omega) (fun H s => s.seq hp) (fun _ _ _ _ y => yat_same y) (fun i x y H0 H1 hi s1 yy hy R hR => ?_) (fun H1 s1 hH => ?_)
        · obtain ⟨rfl, hx⟩ := yy
          obtain ⟨d, hd, hxd⟩ := hpa.get hx
          walk_at "wp"
          refine ⟨x, d, rfl, hxd.same s1, ?_⟩
          rw [List.getElem?_map, List.getElem?_map, hd] at hy
          cases hy
          exact hR _ (Same.refl _)
        · refine ⟨ds.map wholeD, SqL.of hH, ?_⟩
          have e : (ds.map wholeD).all id = ds.all wholeD := by rw [List.all_map]; rfl
          rw [e]
          cases hw : ds.all wholeD with
          | false =>
            refine no H1 s1 fun ns z1 z2 => ?_
            injection z1 with z1
            rw [z1, wholeD_ints] at hw
            cases hw
          | true =>
            obtain ⟨ns, rfl⟩ := all_wholeD hw
            rw [List.length_map] at hdl
            exact q H1 true s1 ⟨fun _ => ⟨ns, rfl, hdl⟩, fun _ => rfl⟩
      | _ => cases hl
abbrev s_are_prices : Stmt := top 46
theorem sc_are_prices : FnScope ["days", "thing", "each", "want", "loaf", "keep", "fine"] ["days", "thing"] (defScope s_are_prices) := ⟨rfl, rfl, rfl, by decide +kernel, rfl, by decide +kernel, by decide +kernel⟩
def spArePr (K : PySem.W.Frag) : Sp := fun vs H Q _ => ∃ (x y : V) (g : Good) (d : PyData), vs = [x, y] ∧ Th K H x (.list (g.days.map dayD)) ∧ g.days.length ≤ 40 ∧ Th K H y d ∧ ∀ (H' : Hp) (r : Bool), Same H H' → (r = true ↔ ∃ ns, IsPr g g.days.length d ns) → Q (.bl r) H'
def ArI (g : Good) (ns : List Int) (D : Addr) (H : Hp) (i : Nat) (H' : Hp) : Prop := Same H H' ∧ H' D = some (.lst ((zeros g ns i).map V.bl))
theorem ok_are_prices {f : Addr} {fd : FuncData} (F : Fun K "are_prices" "are_prices" s_are_prices f fd) (B : Bi mg) (Bz : mg "zip" = none) (D_are_whole : Def P w K mg base "are_whole" 2 ["thing", "many"] (spAreW K)) : FnOk P w K mg base CX0 3 f fd ["days", "thing"] (spArePr K) := by
  refine F.ok sc_are_prices (fun vs H Q E h => ?_) (fun cdv A outer s H vs Q E hr h => ?_)
  · obtain ⟨_, _, _, _, rfl, _⟩ := h
    rfl
  · obtain ⟨x, y, g, d, rfl, hx, hn, hy, q⟩ := h
    refine ⟨_, (pss_cons (ps_if (pt_not (pt_val (pe_callD D_are_whole hr (by rfl) (pa_cons (pv 1) (pa_cons (pe_callB call_lnL (by rfl) B.len (by decide +kernel) (pa_cons (pv 0) pa_nil)) pa_nil))))) (pss_one (ps_ret pe_bl)) pss_nil)
 (pss_one (ps_ret (pe_callB (cr_all rfl) (by rfl) B.all (by decide +kernel) (pa_cons (pe_lc (own := [("each", 2), ("want", 3), ("loaf", 4), ("keep", 5), ("fine", 6)]) (g := (gTup K 2 (gCons (gName 2) (gCons (gTup K 4 (gCons (gName 3) (gCons (gName 4) (gCons (gName 5) (gCons (gName 6) gNil))))) gNil)))) rfl sc_are_prices.nd (pi_zip (by rfl) Bz (pa_cons (pv 1) (pa_cons (pv 0) pa_nil))) (blkOk_by (own := [("each", 2), ("want", 3), ("loaf", 4), ("keep", 5), ("fine", 6)]) (N := ["days", "thing", "each", "want", "loaf", "keep", "fine"]) (sc := defScope s_are_prices) (by decide +kernel)) (fun _ _ _ _ _ => (pg_tup rfl (pgs_cons (pg_name (i := 2) sc_are_prices.nd rfl (Or.inl rfl)) (pgs_cons (pg_tup rfl (pgs_cons (pg_name (i := 3) sc_are_prices.nd rfl (Or.inl rfl)) (pgs_cons (pg_name (i := 4) sc_are_prices.nd rfl (Or.inl rfl)) (pgs_cons (pg_name (i := 5) sc_are_prices.nd rfl (Or.inl rfl)) (pgs_cons (pg_name (i := 6) sc_are_prices.nd rfl (Or.inl rfl)) pgs_nil))))) pgs_nil)))) (fun _ _ _ _ _ => (pts_one (pt_cmpR op_eq (pv 3) pe_int (nomark _)))) (fun _ _ _ _ _ => (pe_cmpR op_eq (pv 2) pe_int (nomark _)))) pa_nil))))), ?_⟩
    cases hx with
    | lst hs ha =>
    rename_i a xs
    have hxs := ha.length
    rw [List.length_map] at hxs
    walk_at "wp"
    refine ⟨_, hs, y, g.days.length, d, by rw [hxs], by omega, hy, fun H1 r s1 hr1 => ?_⟩
    walk_at "wp"
    cases r with
    | false =>
      walk_at "wp"
      refine q H1 false s1 ⟨fun z => (by cases z), fun ⟨ns, z⟩ => ?_⟩
      have := hr1.mpr ⟨ns, z.1, z.2.1⟩
      cases this
    | true =>
    obtain ⟨ns, rfl, hdl⟩ := hr1.mp rfl
    cases hy with
    | lst hp hpa =>
    rename_i p ys
    have hyl := hpa.length
    have hys : ys = ns.map V.int := hpa.intsV
    walk_at "wp"
    refine ⟨_, _, s1.seq hp, s1.seq hs, fun D2 hD2 => ?_⟩
    refine LcR.by (walk_zip (n := g.days.length) (xs := ys) (ys := xs) (by rw [hys, List.length_map]; omega)) (ArI g ns D2 H1) ⟨same_upd hD2, by rw [upd_same]; rfl⟩ (fun i H' _ h => ⟨(s1.trans h.1).seq hp, (s1.trans h.1).seq hs⟩) (fun i v H0 H2 hi hI hY => ?_) (fun H2 hI => ?_)
    · obtain ⟨S0, hacc⟩ := hI
      have S2 := S0.trans (ypair_same hY)
      have hacc2 := (ypair_same hY) _ _ hacc
      obtain ⟨T, z1, z2, rfl, hT, rfl, e1, e2⟩ := hY
      have e1 : ys[i]? = some z1 := e1
      have e2 : xs[i]? = some z2 := e2
      rw [hys, rowF_get (by omega)] at e1
      cases e1
      have hd : g.days[i]? = some g.days[i] := List.getElem?_eq_getElem hi
      generalize g.days[i] = d at hd
      obtain ⟨vd, hvd, hvdd⟩ := ha.get' (i := i) (d := dayD d) (by rw [List.getElem?_map, hd]; rfl)
      rw [e2] at hvd
      cases hvd
      obtain ⟨td, rfl, htd⟩ := hvdd.day
      have ew := wantN_at hd
      have hzl := zeros_length g ns i
      walk_at "wp"
      refine ⟨_, SqT.of upd_same, rfl, ?_⟩
      generalize upd H0 T (.tup [V.int (rowF ns i), V.ref td]) = H2 at S2 hacc2 ⊢
      walk_at "wp"
      refine ⟨_, Same.tup (s1.trans S2) htd, rfl, ?_⟩
      walk_at "wp"
      refine ite2 (fun h => ?_) (fun h => ?_)
      · have e : d.want = 0 := of_decide_eq_true h
        refine ⟨_, hacc2, sz100l (by rw [List.length_map]; omega), same_mut S2 hD2, ?_⟩
        rw [upd_same, zeros_succ, if_pos (ew.trans e), List.map_append]
        rfl
      · have e : ¬ d.want = 0 := fun z => h (decide_eq_true z)
        refine ⟨S2, ?_⟩
        rw [zeros_succ, if_neg (fun z => e (ew.symm.trans z)), List.append_nil]
        exact hacc2
    · obtain ⟨S2, hacc⟩ := hI
      refine ⟨_, SqL.of hacc, q _ _ (s1.trans S2) ?_⟩
      rw [zeros_all]
      constructor
      · intro h
        exact ⟨ns, rfl, hdl, h⟩
      · rintro ⟨ms, h1, h2, h3⟩
        injection h1 with h1
        have := pyint_inj h1
        subst this
        exact h3
abbrev s_lets_baked_on : Stmt := top 47
theorem sc_lets_baked_on : FnScope ["light", "costs", "prices", "most", "cost", "price"] ["light", "costs", "prices"] (defScope s_lets_baked_on) := ⟨rfl, rfl, rfl, by decide +kernel, rfl, by decide +kernel, by decide +kernel⟩
def spLbk (K : PySem.W.Frag) : Sp := fun vs H Q _ => ∃ (light : Int) (ca pa : Addr) (wf : Nat → Option Int) (ns : List Int), vs = [.int light, .ref ca, .ref pa] ∧ SqL K H ca ((List.range ns.length).map fun k => optV (wf k)) ∧ SqL K H pa (ns.map V.int) ∧ ns.length ≤ 1000 ∧ 0 ≤ light ∧ ∀ (H' : Hp) (r : Bool), Same H H' → (r = true ↔ ∀ k, k ≤ ns.length → kad wf (rowF ns) k ≤ light) → Q (.bl r) H'
def LkI (v0 v1 v2 : V) (wf : Nat → Option Int) (pr : Nat → Int) (light : Int) (H : Hp) (i : Nat) (σ : L2.St) (H' : Hp) : Prop := (∃ y4 y5, σ = [some v0, some v1, some v2, some (.int (kad wf pr i)), y4, y5]) ∧ Same H H' ∧ ∀ k, k ≤ i → kad wf pr k ≤ light
theorem ok_lets_baked_on {f : Addr} {fd : FuncData} (F : Fun K "lets_baked_on" "lets_baked_on" s_lets_baked_on f fd) (B : Bi mg) (Bz : mg "zip" = none) : FnOk P w K mg base CX0 1 f fd ["light", "costs", "prices"] (spLbk K) := by
  refine F.ok sc_lets_baked_on (fun vs H Q E h => ?_) (fun cdv A outer s H vs Q E hr h => ?_)
  · obtain ⟨_, _, _, _, _, rfl, _⟩ := h
    rfl
  · obtain ⟨light, ca, pa, wf, ns, rfl, hc, hp, hn, hl, q⟩ := h
    refine ⟨_, (pss_cons (ps_set (i := 3) sc_lets_baked_on.nd rfl (Or.inl rfl) pe_int)
 (pss_cons (ps_for PassesOwn.never rfl (pi_zip (by rfl) Bz (pa_cons (pv 1) (pa_cons (pv 2) pa_nil))) (pg_tup rfl (pgs_cons (pg_name (i := 4) sc_lets_baked_on.nd rfl (Or.inl rfl)) (pgs_cons (pg_name (i := 5) sc_lets_baked_on.nd rfl (Or.inl rfl)) pgs_nil))) (pss_cons (ps_set (i := 3) sc_lets_baked_on.nd rfl (Or.inl rfl) (pe_ifExp (pt_cmpR op_isN (pv 4) pe_non (nomark _)) pe_int (pe_callB (call_mx rfl) (by rfl) B.max (by decide +kernel) (pa_cons pe_int (pa_cons (pe_op op_sub (pe_op op_add (pv 3) (pv 5)) (pv 4)) pa_nil)))))
 (pss_one (ps_if (pt_cmpR op_gt (pv 3) (pv 0) (nomark _)) (pss_one (ps_ret pe_bl)) pss_nil))))
 (pss_one (ps_ret pe_bl)))), ?_⟩
    walk_at "wp"
    refine ⟨_, _, hc, hp, ?_⟩
    refine LoopR.by (walk_zip (n := ns.length) (xs := (List.range ns.length).map fun k => optV (wf k)) (ys := ns.map V.int) (by rw [List.length_map, List.length_map, List.length_range, Nat.min_self])) (LkI (.int light) (.ref ca) (.ref pa) wf (rowF ns) light H) ⟨⟨_, _, rfl⟩, Same.refl _, fun k hk => by rw [show k = 0 by omega]; exact hl⟩ (fun i σ H' _ hI => ⟨hI.2.1.seq hc, hI.2.1.seq hp⟩) (fun i v σ H0 H1 hi hI hY => ?_) (fun σ H1 hI => ?_)
    · obtain ⟨⟨y4, y5, rfl⟩, S0, hle⟩ := hI
      have S1 := S0.trans (ypair_same hY)
      obtain ⟨T, z1, z2, rfl, hT, rfl, e1, e2⟩ := hY
      have e1 : ((List.range ns.length).map fun k => optV (wf k))[i]? = some z1 := e1
      have e2 : (ns.map V.int)[i]? = some z2 := e2
      rw [rowF_get (by omega)] at e2
      cases e2
      rw [List.getElem?_map, List.getElem?_range hi] at e1
      cases e1
      walk_at "wp"
      refine ⟨_, SqT.of upd_same, rfl, ?_⟩
      generalize upd H0 T (.tup [optV (wf i), V.int (rowF ns i)]) = H1 at S1 ⊢
      have done : ∀ m, kad wf (rowF ns) (i + 1) = m → ∀ y4 y5, (if decide (m > light) = true then Q (.bl false) H1 else LkI (.int light) (.ref ca) (.ref pa) wf (rowF ns) light H (i + 1) [some (.int light), some (.ref ca), some (.ref pa), some (.int m), y4, y5] H1) := by
        intro m hm y4 y5
        refine ite2 (fun h => ?_) (fun h => ?_)
        · have h : m > light := of_decide_eq_true h
          refine q _ false S1 ⟨fun z => (by cases z), fun z => ?_⟩
          have := z (i + 1) (by omega)
          omega
        · have h : ¬ m > light := fun z => h (decide_eq_true z)
          refine ⟨⟨_, _, by rw [hm]⟩, S1, fun k hk => ?_⟩
          by_cases e : k = i + 1
          · subst e
            omega
          · exact hle k (by omega)
      cases hw : wf i with
      | none =>
        simp only [optV]
        walk_at "wp"
        exact done _ (kad_none hw) _ _
      | some c =>
        simp only [optV]
        walk_at "wp"
        exact done _ (kad_some hw) _ _
    · obtain ⟨⟨y4, y5, rfl⟩, S1, hle⟩ := hI
      walk_at "wp"
      exact q _ true S1 ⟨fun _ => hle, fun _ => rfl⟩
abbrev s_lets_prices : Stmt := top 48
theorem sc_lets_prices : FnScope ["bakery", "thing", "lights", "bound", "goods", "days", "life", "light", "costs"] ["bakery", "thing"] (defScope s_lets_prices) := ⟨rfl, rfl, rfl, by decide +kernel, rfl, by decide +kernel, by decide +kernel⟩
def spLetsP (K : PySem.W.Frag) : Sp := fun vs H Q _ => ∃ x y ls g d, vs = [x, y] ∧ Th K H x (bakD ⟨ls, none, [g]⟩) ∧ bakB (bakD ⟨ls, none, [g]⟩) = true ∧ Th K H y d ∧ ∀ (H' : Hp) (r : Bool), Same H H' → (r = true ↔ ∃ ns, IsPr g ls.length d ns ∧ Lets g (rowF ls) (rowF ns) ls.length) → Q (.bl r) H'
def LpI (g : Good) (pr lights : Nat → Int) (n : Nat) (D : Addr) (H : Hp) (i : Nat) (H' : Hp) : Prop := Same H H' ∧ ∃ bs : List Bool, H' D = some (.lst (bs.map V.bl)) ∧ bs.length = i ∧ ∀ b r, bs[b]? = some r → (r = true ↔ ∀ k, k ≤ n → kad (wantP g b) pr k ≤ lights b)
theorem ok_lets_prices {f : Addr} {fd : FuncData} (F : Fun K "lets_prices" "lets_prices" s_lets_prices f fd) (B : Bi mg) (Bz : mg "zip" = none) (D_look_at_plain : Def P w K mg base "look_at_plain" 8 ["bakery"] (spPlain K .non)) (D_are_prices : Def P w K mg base "are_prices" 3 ["days", "thing"] (spArePr K))
    (D_wanted_table : Def P w K mg base "wanted_table" 4 ["good"] (spTable K)) (D_lets_baked_on : Def P w K mg base "lets_baked_on" 1 ["light", "costs", "prices"] (spLbk K)) : FnOk P w K mg base CX0 9 f fd ["bakery", "thing"] (spLetsP K) := by
  refine F.ok sc_lets_prices (fun vs H Q E h => ?_) (fun cdv A outer s H vs Q E hr h => ?_)
  · obtain ⟨_, _, _, _, _, rfl, _⟩ := h
    rfl
  · obtain ⟨x, y, ls, g, d, rfl, hx, hb, hy, q⟩ := h
    refine ⟨_, (pss_cons (ps_expr (pe_callD D_look_at_plain hr (by rfl) (pa_cons (pv 0) pa_nil)))
 (pss_cons (ps_asg (pv 0) (pg_tup rfl (pgs_cons (pg_name (i := 2) sc_lets_prices.nd rfl (Or.inl rfl)) (pgs_cons (pg_name (i := 3) sc_lets_prices.nd rfl (Or.inl rfl)) (pgs_cons (pg_name (i := 4) sc_lets_prices.nd rfl (Or.inl rfl)) pgs_nil)))))
 (pss_cons (ps_asg (pe_ix ix_list (pv 4) pe_int (fun _ _ => rfl)) (pg_tup rfl (pgs_cons (pg_name (i := 5) sc_lets_prices.nd rfl (Or.inl rfl)) (pgs_cons (pg_name (i := 6) sc_lets_prices.nd rfl (Or.inl rfl)) pgs_nil))))
 (pss_cons (ps_if (pt_not (pt_val (pe_callD D_are_prices hr (by rfl) (pa_cons (pv 5) (pa_cons (pv 1) pa_nil))))) (pss_one (ps_ret pe_bl)) pss_nil)
 (pss_one (ps_ret (pe_callB (cr_all rfl) (by rfl) B.all (by decide +kernel) (pa_cons (pe_lc (own := [("light", 7), ("costs", 8)]) (g := (gTup K 2 (gCons (gName 7) (gCons (gName 8) gNil)))) rfl sc_lets_prices.nd (pi_zip (by rfl) Bz (pa_cons (pv 2) (pa_cons (pe_callD D_wanted_table hr (by rfl) (pa_cons (pe_ix ix_list (pv 4) pe_int (fun _ _ => rfl)) pa_nil)) pa_nil))) (blkOk_by (own := [("light", 7), ("costs", 8)]) (N := ["bakery", "thing", "lights", "bound", "goods", "days", "life", "light", "costs"]) (sc := defScope s_lets_prices) (by decide +kernel)) (fun _ _ _ _ _ => (pg_tup rfl (pgs_cons (pg_name (i := 7) sc_lets_prices.nd rfl (Or.inl rfl)) (pgs_cons (pg_name (i := 8) sc_lets_prices.nd rfl (Or.inl rfl)) pgs_nil)))) (fun _ _ _ _ _ => pts_nil) (fun _ _ _ _ _ => (pe_callD D_lets_baked_on hr (by rfl) (pa_cons (pv 7) (pa_cons (pv 8) (pa_cons (pv 1) pa_nil)))))) pa_nil)))))))), ?_⟩
    obtain ⟨⟨c1, c2⟩, c3, _, _, c7⟩ := bak_parts hb
    obtain ⟨c8, c9, hok⟩ := c7 g (List.mem_singleton.mpr rfl)
    dsimp only at c1 c2 c3 c8
    have nn : ∀ b, 0 ≤ rowF ls b := rowF_nonneg fun z hz => by
      have := c3 z hz
      simp only [numD, Bool.and_eq_true, decide_eq_true_eq] at this
      exact this.1
    walk_at "wp"
    refine ⟨_, _, rfl, hx, hb, rfl, rfl, fun H1 s1 => ?_⟩
    obtain ⟨a, l, v2, ga, xl, xg, rfl, ht, hl, hla, h2, hgl, hga⟩ := Th.bak (hx.same s1)
    obtain ⟨vg, hv, hvg⟩ := hga.get' (i := 0) (d := goodD g) rfl
    have hvg0 := hvg
    obtain ⟨tg, ad, xs, rfl, htg, hsg, hag⟩ := hvg.good
    have hxl : xl = ls.map V.int := hla.intsV
    walk_at "wp"
    refine ⟨_, ht, rfl, ?_⟩
    walk_at "wp"
    refine ⟨_, _, hgl, atI_nat (j := 0) hv, ?_⟩
    walk_at "wp"
    refine ⟨_, htg, rfl, ?_⟩
    walk_at "wp"
    refine ⟨_, _, g, d, rfl, .lst hsg hag, by omega, hy.same s1, fun H2 r s2 hr2 => ?_⟩
    have s12 := s1.trans s2
    walk_at "wp"
    cases r with
    | false =>
      walk_at "wp"
      refine q _ false s12 ⟨fun z => (by cases z), fun ⟨ns, z, _⟩ => ?_⟩
      have := hr2.mpr ⟨ns, by rw [c8]; exact z⟩
      cases this
    | true =>
      obtain ⟨ns, hP⟩ := hr2.mp rfl
      rw [c8] at hP
      obtain ⟨hd, hnl, hz⟩ := hP
      subst hd
      cases hy with
      | lst hp hpa =>
      rename_i p ys
      have hys : ys = ns.map V.int := hpa.intsV
      subst hys
      walk_at "wp"
      refine ⟨_, _, s2.seq hgl, atI_nat (j := 0) hv, ?_⟩
      refine ⟨_, g, rfl, hvg0.same s2, hok, by omega, fun H3 Dt acc s3 hD0 hacc hrow => ?_⟩
      obtain ⟨hal, hrow⟩ := hrow
      have s23 := s2.trans s3
      walk_at "wp"
      refine ⟨_, _, s23.seq hl, SqL.of hacc, fun D hD => ?_⟩
      refine LcR.by (walk_zip (n := ls.length) (xs := xl) (ys := acc) (by rw [hxl, List.length_map]; omega)) (LpI g (rowF ns) (rowF ls) ls.length D H3) ⟨same_upd hD, [], upd_same, rfl, fun b r e => by cases e⟩ (fun i H' _ h => ⟨(s23.trans h.1).seq hl, h.1.seq (SqL.of hacc)⟩) (fun i v H0 H4 hi hI hY => ?_) (fun H4 hI => ?_)
      · obtain ⟨S0, bs, hbs, hbl, hbp⟩ := hI
        have S4 := S0.trans (ypair_same hY)
        have hbs4 := (ypair_same hY) _ _ hbs
        obtain ⟨T, z1, z2, rfl, hT, rfl, e1, e2⟩ := hY
        have e1 : xl[i]? = some z1 := e1
        have e2 : acc[i]? = some z2 := e2
        rw [hxl, rowF_get (by omega)] at e1
        cases e1
        obtain ⟨p2, e3, e4⟩ := hrow i (by omega)
        rw [e2] at e3
        cases e3
        walk_at "wp"
        refine ⟨_, SqT.of upd_same, rfl, ?_⟩
        generalize upd H0 T (.tup [V.int (rowF ls i), V.ref p2]) = H4 at S4 hbs4 ⊢
        walk_at "wp"
        refine ⟨rowF ls i, p2, p, wantP g i, ns, rfl, SqL.of (by rw [hnl, ← c8]; exact S4 _ _ e4), ((s12.trans s3).trans S4).seq hp, by omega, nn i, fun H5 r s5 hr5 => ?_⟩
        refine ⟨_, s5 _ _ hbs4, sz100l (by rw [List.length_map]; omega), same_mut (S4.trans s5) hD, bs ++ [r], by rw [upd_same, List.map_append]; rfl, by rw [List.length_append, hbl]; rfl, fun b r' e => ?_⟩
        by_cases hb' : b < bs.length
        · rw [List.getElem?_append_left hb'] at e
          exact hbp b r' e
        · rw [List.getElem?_append_right (by omega)] at e
          have eb : b = i := by
            have := (List.getElem?_eq_some_iff.mp e).1
            have : b - bs.length < 1 := this
            omega
          subst eb
          rw [hbl, Nat.sub_self] at e
          cases e
          rw [hr5, hnl]
      · obtain ⟨S4, bs, hbs, hbl, hbp⟩ := hI
        refine ⟨bs, SqL.of hbs, q _ _ ((s12.trans s3).trans S4) ?_⟩
        rw [List.all_eq_true]
        constructor
        · intro h
          refine ⟨ns, ⟨rfl, hnl, hz⟩, lets_kad.mp fun b hb' => ?_⟩
          have e : bs[b]? = some bs[b] := List.getElem?_eq_getElem (by omega)
          exact (hbp b _ e).mp (h _ (List.getElem_mem _))
        · rintro ⟨ms, ⟨h1, h2', h3⟩, h4⟩ r hr
          injection h1 with h1
          have := pyint_inj h1
          subst this
          obtain ⟨b, hb', e⟩ := List.mem_iff_getElem.mp hr
          have e' : bs[b]? = some r := by rw [List.getElem?_eq_getElem hb', e]
          exact (hbp b r e').mpr (lets_kad.mpr h4 b (by omega))
end
end Bk

namespace Bk
open PySem PySem.Spec PyProof.Rows L2
local macro_rules | `(tactic| walk_at "wp") => `(tactic| try simp only [rMaxD_r, rSortedI_r, tCKw, rNinr_r, rNeN_r, rCatL_r, rSlT_r, rListOf_r, rIsB_b, rNotB_b, tFmtO, tJs, tOst, tCallS, WE, tRaise2, rOne_i, rSorD_r, tDNewK, Int.zero_add, tNever, tFor_eq, tLc_eq, iList, iTup, iRng1_eq, rRng1_i, iRng2_eq, rRng2_i, iEnum_eq, rEnum_r, iZip_eq, rZip_r, tSl, tPart, tNoPart, rSlL_r, rCat_r, rIn_r, rNin_r, rRepr_r, iRevR, rMin_r, rShr_i, rOdd_i, rSetL_r, gSub, rRg1_i, rRg2_i, rInr_r, tAug, ipI_ii, tLstRg, tRg1, tRg2, gTup_r, gUnl_r, rInt1_b, rInt1_i, rRep_r, tStep_r, scal, tSeq, tNext, tAsg, tRet, tRetN, tIfS, tDrop, tCB, tCons, tNil, tVar, tOp, tUn, tC, rU_i, rI_ii, rI0_ii, rEq, rNe, tTest, tB, tAnd, tOr, tNot, tAndV, tOrV, tNotV, tIf, tChain, tLst, tTup, tBM, tBM0, rAppend_r, rIxL_r, rIxT_r, rMx_ii, rMn_ii, rLnL_r, rLnT_r, rIsD_int, rIsD_bool, rIsD_list, rIsD_tuple, tCall, gName, gNil_n, gCons_c, cxK, L2.start, List.map, List.replicate, List.length_cons, List.length_nil, List.cons_append, List.nil_append, List.append_nil, List.getElem?_cons_zero, List.getElem?_cons_succ, Option.some.injEq, exists_eq_left', exists_eq_left, V.int.injEq, V.bl.injEq, V.str.injEq, V.ref.injEq, List.cons.injEq, and_true, true_and, and_self, List.set, wipe, rAll_r, rSum_r, reduceCtorEq, decide_true, decide_false, reduceIte, ite_true, ite_false, if_true, if_false, Bool.false_eq_true, Bool.not_true, Bool.not_false])
local macro_rules | `(tactic| walk_at "shaped") => `(tactic| (simp only [SeqAt.shaped, PyData.canLay0, PyData.canLayAll0, PyData.depth, PyData.depthAll]; rfl))
local macro_rules | `(tactic| walk_at "lay") => `(tactic| (simp only [PyData.canLay0, PyData.canLayAll0]; rfl))
section
variable {P : Program} {w : World} {K : PySem.W.Frag} {mg : Str → Option Value} {base : Heap}
abbrev s_chain_of : Stmt := top 61
theorem sc_chain_of : FnScope ["lasts", "number", "chain"] ["lasts", "number"] (defScope s_chain_of) := ⟨rfl, rfl, rfl, by decide +kernel, rfl, by decide +kernel, by decide +kernel⟩
def spChain (K : PySem.W.Frag) : Sp := fun vs H Q _ => ∃ (pl : Addr) (os : List (Option Nat)) (j : Nat), vs = [.ref pl, .int (j : Int)] ∧ SqL K H pl (os.map natV) ∧ Down os ∧ j < os.length ∧ os.length ≤ 1000 ∧ ∀ (H' : Hp) (p : Addr), Same H H' → H p = none → H' p = some (.lst ((chain os j).map natI)) → Q (.ref p) H'
def ChI (v0 v1 : V) (os : List (Option Nat)) (j : Nat) (p : Addr) (H : Hp) (i : Nat) (σ : L2.St) (H' : Hp) : Prop := σ = [some v0, some v1, some (.ref p)] ∧ Same H H' ∧ ∃ pre cur, H' p = some (.lst ((pre ++ [cur]).map natI)) ∧ chain os j = pre ++ chain os cur ∧ cur + i ≤ j ∧ pre.length = i
theorem osAtI {os : List (Option Nat)} {j : Nat} (h : j < os.length) : ∃ o, os[j]? = some o ∧ atI (os.map natV) (j : Int) = some (natV o) := ⟨_, List.getElem?_eq_getElem h, atI_nat (by rw [List.getElem?_map, List.getElem?_eq_getElem h]; rfl)⟩
theorem atI_snoc {pre : List Nat} {cur : Nat} : atI ((pre ++ [cur]).map natI) (-1) = some (natI cur) := atI_last (m := pre.length) (by rw [List.length_map, List.length_append]; rfl) (by rw [List.getElem?_map, List.getElem?_append_right (Nat.le_refl _), Nat.sub_self]; rfl)
theorem ok_chain_of {f : Addr} {fd : FuncData} (F : Fun K "chain_of" "chain_of" s_chain_of f fd) : FnOk P w K mg base CX0 1 f fd ["lasts", "number"] (spChain K) := by
  refine F.ok sc_chain_of (fun vs H Q E h => ?_) (fun cdv A outer s H vs Q E hr h => ?_)
  · obtain ⟨_, _, _, rfl, _⟩ := h
    rfl
  · obtain ⟨pl, os, j, rfl, hl, hd, hj, hol, q⟩ := h
    refine ⟨_, (pss_cons (ps_set (i := 2) sc_chain_of.nd rfl (Or.inl rfl) (pe_lst (pa_cons (pv 1) pa_nil)))
 (pss_cons (ps_while PassesOwn.never (pt_cmpR op_notN (pe_ix ix_list (pv 0) (pe_ix ix_list (pv 2) (pe_un un_neg pe_int) (fun _ _ => rfl)) (fun _ _ => rfl)) pe_non (nomark _)) (pss_one (ps_expr (pe_bm PySem.F.plainAttrs_list PySem.F.slot_list_append PySem.F.type_list_append mt_append (pv 2) (pa_cons (pe_ix ix_list (pv 0) (pe_ix ix_list (pv 2) (pe_un un_neg pe_int) (fun _ _ => rfl)) (fun _ _ => rfl)) pa_nil)))))
 (pss_one (ps_ret (pv 2))))), ?_⟩
    walk_at "wp"
    refine ⟨sz100 (by decide), fun p hp => ?_⟩
    have S0 := same_upd (o := .lst [V.int (j : Int)]) hp
    have E0' : upd H p (.lst [V.int (j : Int)]) p = some (.lst [V.int (j : Int)]) := upd_same
    generalize upd H p (.lst [V.int (j : Int)]) = H1 at S0 E0' ⊢
    refine while_by j (ChI (.ref pl) (.int (j : Int)) os j p H) ⟨rfl, S0, [], j, E0', rfl, by omega, rfl⟩ (fun i σ H2 hi hI => ?_)
    obtain ⟨rfl, S2, pre, cur, e2, ec, hcur, hpre⟩ := hI
    obtain ⟨o, ho, hoa⟩ := osAtI (os := os) (j := cur) (by omega)
    walk_at "wp"
    refine ⟨_, _, SqL.of e2, atI_snoc, ?_⟩
    simp only [natI]
    walk_at "wp"
    refine ⟨_, _, S2.seq hl, hoa, ?_⟩
    cases o with
    | none =>
      rw [show natV none = V.non from rfl]
      walk_at "wp"
      refine q H2 p S2 hp ?_
      rw [e2, ec, chain_none (j := cur) fun d z => by rw [ho] at z; cases z]
    | some d =>
      rw [show natV (some d) = V.int (d : Int) from rfl]
      have hdc := hd cur d ho
      walk_at "wp"
      refine wstep (by omega) ?_
      walk_at "wp"
      refine ⟨tyL (K := K) (SqL.of e2), _, _, SqL.of e2, atI_snoc, ?_⟩
      simp only [natI]
      walk_at "wp"
      refine ⟨_, _, S2.seq hl, hoa, ?_⟩
      refine ⟨_, e2, sz100l (by rw [List.length_map, List.length_append, List.length_singleton]; omega), rfl, same_mut S2 hp, pre ++ [cur], d, ?_, ?_, by omega, by rw [List.length_append, List.length_singleton, hpre]⟩
      · rw [upd_same, List.map_append (l₁ := pre ++ [cur])]
        rfl
      · rw [ec, chain_some hd ho, List.append_assoc]
        rfl
abbrev s_settled_by : Stmt := top 62
theorem sc_settled_by : FnScope ["lasts", "known", "last", "chains", "shared", "many", "number", "chain"] ["lasts", "known"] (defScope s_settled_by) := ⟨rfl, rfl, rfl, by decide +kernel, rfl, by decide +kernel, by decide +kernel⟩
def spSetBy (K : PySem.W.Frag) : Sp := fun vs H Q _ => ∃ (pl : Addr) (os : List (Option Nat)) (n : Nat), vs = [.ref pl, .int (n : Int)] ∧ SqL K H pl (os.map natV) ∧ Down os ∧ n < os.length ∧ os.length ≤ 1000 ∧
  ∀ (H' : Hp) (t p : Addr) (m : Nat), Same H H' → H t = none → H p = none → t ≠ p → H' t = some (.tup [.int (m : Int), .ref p]) → H' p = some (.lst ((litOf os m).map natI)) → IsMany os n m → m < os.length → Q (.ref t) H'
def ChsI (os : List (Option Nat)) (l : Nat) (D : Addr) (H1 : Hp) (i : Nat) (H' : Hp) : Prop := Same H1 H' ∧ ∃ acc : List V, H' D = some (.lst acc) ∧ acc.length = i ∧ ∀ j, j < i → ∃ p, acc[j]? = some (.ref p) ∧ p ≠ D ∧ H' p = some (.lst ((chain os (l + j)).map natI))
theorem inV_nat (m : Nat) : ∀ l : List Nat, inV (.int (m : Int)) (l.map natI) = true ↔ m ∈ l
  | [] => ⟨fun h => (by cases h), fun h => (by cases h)⟩
  | x :: r => by
    show (eqV (natI x) (.int (m : Int)) || inV (.int (m : Int)) (r.map natI)) = true ↔ _
    rw [Bool.or_eq_true, inV_nat m r, List.mem_cons]
    refine or_congr ?_ Iff.rfl
    simp only [natI, eqV, beq_iff_eq]
    omega
theorem flat_nats (l : List Nat) : (l.map natI).all flatV = true := by
  rw [List.all_eq_true]
  intro x hx
  obtain ⟨o, _, rfl⟩ := List.mem_map.mp hx
  rfl
theorem sorted_same : ∀ {l1 l2 : List Int}, l1.Perm l2 → l1.Pairwise (· ≤ ·) → l2.Pairwise (· ≤ ·) → l1 = l2
  | [], l2, h, _, _ => (List.nil_perm.mp h).symm
  | a :: r, [], h, _, _ => absurd h.length_eq (by simp)
  | a :: r, b :: r2, h, h1, h2 => by
    have h1' := List.pairwise_cons.mp h1
    have h2' := List.pairwise_cons.mp h2
    have ha : a ∈ b :: r2 := h.mem_iff.mp List.mem_cons_self
    have hb : b ∈ a :: r := h.mem_iff.mpr List.mem_cons_self
    have e : a = b := by
      rcases List.mem_cons.mp ha with z | z
      · exact z
      · rcases List.mem_cons.mp hb with y | y
        · exact y.symm
        · have := h2'.1 a z
          have := h1'.1 b y
          omega
    subst e
    rw [sorted_same h.cons_inv h1'.2 h2'.2]
def shB (os : List (Option Nat)) (l n m : Nat) : Bool := (List.range (n - l)).all fun j => decide (m ∈ chain os (l + j))
theorem shB_iff {os : List (Option Nat)} {l n m : Nat} (e : os[n]? = some (some l)) : shB os l n m = true ↔ SharedM os n m := by
  unfold shB
  rw [List.all_eq_true]
  constructor
  · intro h
    refine ⟨l, e, fun k h1 h2 => ?_⟩
    have := h (k - l) (List.mem_range.mpr (by omega))
    rw [show l + (k - l) = k by omega] at this
    exact of_decide_eq_true this
  · rintro ⟨l2, e2, hk⟩ j hj
    rw [e] at e2
    cases e2
    have := List.mem_range.mp hj
    exact decide_eq_true (hk (l + j) (by omega) (by omega))
theorem ok_settled_by {f : Addr} {fd : FuncData} (F : Fun K "settled_by" "settled_by" s_settled_by f fd) (B : Bi mg) (Bs : mg "sorted" = none) (D_chain_of : Def P w K mg base "chain_of" 1 ["lasts", "number"] (spChain K)) : FnOk P w K mg base CX0 2 f fd ["lasts", "known"] (spSetBy K) := by
  refine F.ok sc_settled_by (fun vs H Q E h => ?_) (fun cdv A outer s H vs Q E hr h => ?_)
  · obtain ⟨_, _, _, rfl, _⟩ := h
    rfl
  · obtain ⟨pl, os, n, rfl, hl, hd, hn, hol, q⟩ := h
    refine ⟨_, (pss_cons (ps_set (i := 2) sc_settled_by.nd rfl (Or.inl rfl) (pe_ix ix_list (pv 0) (pv 1) (fun _ _ => rfl)))
 (pss_cons (ps_if (pt_cmpR op_isN (pv 2) pe_non (nomark _)) (pss_one (ps_ret (pe_tup (pa_cons pe_int (pa_cons (pe_lst pa_nil) pa_nil))))) pss_nil)
 (pss_cons (ps_set (i := 3) sc_settled_by.nd rfl (Or.inr rfl) (pe_lc (own := [("number", 6)]) (g := (gName 6)) rfl sc_settled_by.nd (pi_range2 (by rfl) B.range (pa_cons (pv 2) (pa_cons (pv 1) pa_nil))) (blkOk_by (own := [("number", 6)]) (N := ["lasts", "known", "last", "chains", "shared", "many", "number", "chain"]) (sc := defScope s_settled_by) (by decide +kernel)) (fun _ _ _ _ _ => (pg_name (i := 6) sc_settled_by.nd rfl (Or.inl rfl))) (fun _ _ _ _ _ => pts_nil) (fun _ _ _ _ _ => (pe_callD D_chain_of hr (by rfl) (pa_cons (pv 0) (pa_cons (pv 6) pa_nil))))))
 (pss_cons (ps_setLc (i := 4) (own := [("number", 6)]) (g := (gName 6)) (tt := (tB (tCB (rAll K) (tCons (tLc (iList K _) (gName 7) tYes (tOp (rIn K false) _ _) [7]) tNil)))) rfl sc_settled_by.nd rfl rfl (sw_true rfl rfl rfl (by decide +kernel)) (pi_list (pe_ix ix_list (pv 3) pe_int (fun _ _ => rfl))) (blkOk_by (own := [("number", 6)]) (N := ["lasts", "known", "last", "chains", "shared", "many", "number", "chain"]) (sc := defScope s_settled_by) (by decide +kernel)) (fun _ _ _ _ _ => (pg_name (i := 6) sc_settled_by.nd rfl (Or.inr rfl))) (fun _ _ _ _ _ => (pts_one (pt_val (pe_callB (cr_all rfl) (by rfl) B.all (by decide +kernel) (pa_cons (pe_lc (own := [("chain", 7)]) (g := (gName 7)) (te := (tOp (rIn K false) _ _)) rfl sc_settled_by.nd (pi_list (pv 3)) (blkOk_by (own := [("chain", 7)]) (N := ["lasts", "known", "last", "chains", "shared", "many", "number", "chain"]) (sc := ({ kind := .function, names := [(".0", .local), ("number", .cell), ("all", .globalImplicit), ("chains", .cell)], isGenerator := false, isCoroutine := false } : Scope)) (by decide +kernel)) (fun _ _ _ _ _ => (pg_name (i := 7) sc_settled_by.nd rfl (Or.inl rfl))) (fun _ _ _ _ _ => pts_nil) (fun _ _ _ _ _ => (pe_cmpR op_in_seq (pv 6) (pv 7) (by rfl)))) pa_nil))))) (fun _ _ _ _ _ => (pv 6)))
 (pss_cons (ps_set (i := 5) sc_settled_by.nd rfl (Or.inl rfl) (pe_callBK (cr_maxDef rfl) (by rfl) B.max (by decide +kernel) (pa_cons (pv 4) pa_nil) (pk_cons pe_int pk_nil)))
 (pss_one (ps_ret (pe_tup (pa_cons (pv 5) (pa_cons (pe_callB cr_sortedI (by rfl) Bs (by decide +kernel) (pa_cons (pe_slice sl_list (pe_callD D_chain_of hr (by rfl) (pa_cons (pv 0) (pa_cons (pv 5) pa_nil))) (po_some pe_int) po_none) pa_nil)) pa_nil)))))))))), ?_⟩
    obtain ⟨o, ho, hoa⟩ := osAtI (os := os) (j := n) hn
    walk_at "wp"
    refine ⟨_, _, hl, hoa, ?_⟩
    cases o with
    | none =>
      rw [show natV none = V.non from rfl]
      walk_at "wp"
      refine ⟨sz100 (by decide), fun p hp => ⟨sz100 (by decide), fun t ht => ?_⟩⟩
      have S1 := same_upd (o := .lst []) hp
      have S2 := same_upd (o := .tup [V.int 0, V.ref p]) ht
      refine q _ t p 0 (S1.trans S2) (S1.free ht) hp (fun z => by rw [z, upd_same] at ht; cases ht) upd_same (S2 _ _ upd_same) (isMany_none ho) (by omega)
    | some l =>
      rw [show natV (some l) = V.int (l : Int) from rfl]
      have hln := hd n l ho
      walk_at "wp"
      have fin : ∀ (c : Nat) (H9 : Hp), Same H H9 → IsMany os n c → c < os.length → spChain K [V.ref pl, V.int (c : Int)] H9 (fun x H1 => rSlL K x (some 1) none H1 fun x H1 => rSortedI K [x] H1 fun x H1 => 0 + 1 + 1 ≤ sizeLine ∧ ∀ (p : Addr), H1 p = none → Q (V.ref p) (upd H1 p (HO.tup [V.int (c : Int), x]))) E0 := fun c H9 S9 hmc hc => by
        refine ⟨pl, os, c, rfl, S9.seq hl, hd, hc, hol, fun HA pA SA hpA eA => ?_⟩
        walk_at "wp"
        refine ⟨_, SqL.of eA, fun pB hpB => ?_⟩
        have ecut : cutV ((chain os c).map natI) (some 1) none = (((chain os c).tail).map fun (z : Nat) => (z : Int)).map V.int := by
          rw [show (some (1 : Int)) = some ((1 : Nat) : Int) from rfl, cutV_from, ← natI_map, ← List.map_drop, List.drop_one]
        rw [ecut]
        have SB := same_upd (o := .lst ((((chain os c).tail).map fun (z : Nat) => (z : Int)).map V.int)) hpB
        have EB : upd HA pB (.lst ((((chain os c).tail).map fun (z : Nat) => (z : Int)).map V.int)) pB = some (.lst ((((chain os c).tail).map fun (z : Nat) => (z : Int)).map V.int)) := upd_same
        generalize upd HA pB (.lst ((((chain os c).tail).map fun (z : Nat) => (z : Int)).map V.int)) = HB at SB EB ⊢
        walk_at "wp"
        refine ⟨_, SqL.of EB, fun ns' pC hper hsor hpC => ?_⟩
        have ens : ns' = (litOf os c).map fun (z : Nat) => (z : Int) := by
          refine sorted_same (hper.trans ?_) hsor ?_
          · unfold litOf
            exact ((List.reverse_perm _).map _).symm
          · refine (litOf_rise hd c).map _ fun a b hab => ?_
            omega
        rw [ens, ← natI_map]
        refine ⟨sz100 (by decide), fun pD hpD => ?_⟩
        have SC := same_upd (o := .lst ((litOf os c).map natI)) hpC
        have EC : upd HB pC (.lst ((litOf os c).map natI)) pC = some (.lst ((litOf os c).map natI)) := upd_same
        generalize upd HB pC (.lst ((litOf os c).map natI)) = HC at SC EC hpD ⊢
        have SD := same_upd (o := .tup [V.int (c : Int), V.ref pC]) hpD
        have T := S9.trans (SA.trans SB)
        exact q _ pD pC c (T.trans (SC.trans SD)) ((T.trans SC).free hpD) (T.free hpC) (fun z => by rw [z, EC] at hpD; cases hpD) upd_same (SD _ _ EC) hmc hc
      refine ⟨⟨by omega, by omega, by omega, by omega⟩, fun D hD => ?_⟩
      rw [show ((n : Int) - (l : Int)).toNat = n - l by omega]
      refine LcR.by walk_range (ChsI os l D H) ⟨same_upd hD, [], upd_same, rfl, fun j h => by omega⟩ (fun _ _ _ _ => trivial) (fun i v H0 H4 hi hI yy => ?_) (fun H4 hI => ?_)
      · obtain ⟨rfl, rfl⟩ := yy
        obtain ⟨s4, acc, hacc, hal, hrow⟩ := hI
        walk_at "wp"
        refine ⟨pl, os, l + i, by rw [Int.natCast_add], s4.seq hl, hd, by omega, hol, fun H5 D2 s5 hD2 hH5 => ?_⟩
        have ne : D2 ≠ D := fun e => by rw [e, hacc] at hD2; cases hD2
        refine ⟨acc, s5 _ _ hacc, sz100l (by omega), same_mut (s4.trans s5) hD, _, upd_same, by rw [List.length_append, hal]; rfl, fun j hj => ?_⟩
        by_cases hjn : j < i
        · obtain ⟨p, e1, e2, e3⟩ := hrow j hjn
          exact ⟨p, by rw [List.getElem?_append_left (by omega)]; exact e1, e2, by rw [upd_ne e2]; exact s5 _ _ e3⟩
        · have ej : j = i := by omega
          subst ej
          exact ⟨D2, by rw [List.getElem?_append_right (by omega), hal, Nat.sub_self]; rfl, ne, by rw [upd_ne ne]; exact hH5⟩
      · obtain ⟨s4, acc, hacc, hal, hrow⟩ := hI
        obtain ⟨p0, h0, _, e0⟩ := hrow 0 (by omega)
        rw [Nat.add_zero] at e0
        refine ⟨_, _, SqL.of hacc, atI_nat (j := 0) h0, p0, rfl, ⟨_, SqL.of e0⟩, fun D1 hD1 => ?_⟩
        refine LcR.by (walk_list (xs := (chain os l).map natI)) (fun i H' => Same H4 H' ∧ H' D1 = some (.lst ((((chain os l).take i).filter (shB os l n)).map natI))) ⟨same_upd hD1, by rw [upd_same]; rfl⟩ (fun i H' _ hI => hI.1.seq (SqL.of e0)) (fun i v H0 H5 hi hI yy => ?_) (fun H5 hI => ?_)
        · obtain ⟨rfl, hv⟩ := yy
          obtain ⟨s5, hacc5⟩ := hI
          rw [List.length_map] at hi
          rw [List.getElem?_map, List.getElem?_eq_getElem hi] at hv
          have hci : (chain os l)[i]? = some (chain os l)[i] := List.getElem?_eq_getElem hi
          generalize (chain os l)[i] = c at hv hci
          have hv : natI c = v := Option.some.inj hv
          subst hv
          have efl : (((chain os l).take (i + 1)).filter (shB os l n)) = ((chain os l).take i).filter (shB os l n) ++ (if shB os l n c = true then [c] else []) := by
            rw [List.take_add_one, hci, List.filter_append]
            congr 1
            by_cases hs : shB os l n c = true
            · rw [if_pos hs]
              exact List.filter_cons_of_pos hs
            · rw [if_neg hs]
              exact List.filter_cons_of_neg hs
          have hcl : (((chain os l).take i).filter (shB os l n)).length ≤ 1000 := by
            refine Nat.le_trans (List.length_filter_le _ _) ?_
            rw [List.length_take]
            have := (chain_len hd l)
            omega
          simp only [natI]
          walk_at "wp"
          refine ⟨⟨_, SqL.of (s5 _ _ hacc)⟩, fun D2 hD2 => ?_⟩
          have ne : D2 ≠ D1 := fun e => by rw [e, hacc5] at hD2; cases hD2
          refine LcR.map (walk_list (xs := acc)) ((List.range (n - l)).map fun j => V.bl (decide (c ∈ chain os (l + j)))) hD2 (by rw [List.length_map, List.length_range, hal]) (by omega) (fun H s => s.seq (SqL.of (s5 _ _ hacc))) (fun _ _ _ _ y => yat_same y) (fun k v y H0 H6 hk s6 yy hy R hR => ?_) (fun H6 s6 hH6 => ?_)
          · obtain ⟨rfl, hv⟩ := yy
            obtain ⟨pk, e1, _, e3⟩ := hrow k (by omega)
            rw [e1] at hv
            cases hv
            rw [List.getElem?_map, List.getElem?_range (by omega)] at hy
            cases hy
            walk_at "wp"
            refine ⟨_, .inl (SqL.of ((s5.trans s6) _ _ e3)), rfl, flat_nats _, ?_⟩
            rw [show inV (V.int (c : Int)) ((chain os (l + k)).map natI) = decide (c ∈ chain os (l + k)) from Bool.eq_iff_iff.mpr ((inV_nat c _).trans decide_eq_true_iff.symm)]
            exact hR _ (Same.refl _)
          · refine ⟨(List.range (n - l)).map fun j => decide (c ∈ chain os (l + j)), ?_, ?_⟩
            · rw [List.map_map]
              exact SqL.of hH6
            · rw [show (((List.range (n - l)).map fun j => decide (c ∈ chain os (l + j))).all id) = shB os l n c by unfold shB; rw [List.all_map]; rfl]
              cases hs : shB os l n c with
              | true =>
                rw [hs, if_pos rfl] at efl
                walk_at "wp"
                refine ⟨_, s6 _ _ hacc5, sz100l (by rw [List.length_map]; omega), same_mut (s5.trans s6) hD1, ?_⟩
                rw [upd_same, efl, List.map_append]
                rfl
              | false =>
                rw [hs, if_neg (by decide), List.append_nil] at efl
                walk_at "wp"
                refine ⟨s5.trans s6, ?_⟩
                rw [efl]
                exact s6 _ _ hacc5
        · obtain ⟨s5, hacc5⟩ := hI
          rw [List.length_map, List.take_length] at hacc5
          have S5 := s4.trans s5
          have hmem : ∀ m, SharedM os n m → m ∈ (chain os l).filter (shB os l n) := fun m hs => by
            rw [List.mem_filter]
            refine ⟨?_, (shB_iff ho).mpr hs⟩
            obtain ⟨l2, e2, hk⟩ := hs
            rw [ho] at e2
            cases e2
            exact hk l (Nat.le_refl _) hln
          rw [natI_map] at hacc5
          refine ⟨_, SqL.of hacc5, fun hnil => ?_, fun m hm hmax => ?_⟩
          · have hnil' : (chain os l).filter (shB os l n) = [] := List.map_eq_nil_iff.mp hnil
            refine fin 0 _ S5 ⟨fun m' hs => ?_, .inl rfl⟩ (by omega)
            have := hmem m' hs
            rw [hnil'] at this
            cases this
          · obtain ⟨c, hc, rfl⟩ := List.mem_map.mp hm
            have hc2 := List.mem_filter.mp hc
            refine fin c _ S5 ⟨fun m' hs => ?_, .inr ((shB_iff ho).mp hc2.2)⟩ ?_
            · have := hmax (m' : Int) (List.mem_map.mpr ⟨m', hmem m' hs, rfl⟩)
              omega
            · have := chain_le hd l l (Nat.le_refl _) c hc2.1
              omega
end
end Bk

namespace Bk
open PySem PySem.Spec PyProof.Rows L2
local macro_rules | `(tactic| walk_at "wp") => `(tactic| try simp only [rMaxD_r, rSortedI_r, tCKw, rNinr_r, rNeN_r, rCatL_r, rSlT_r, rListOf_r, rIsB_b, rNotB_b, tFmtO, tJs, tOst, tCallS, WE, tRaise2, rOne_i, rSorD_r, tDNewK, Int.zero_add, tNever, tFor_eq, tLc_eq, iList, iTup, iRng1_eq, rRng1_i, iRng2_eq, rRng2_i, iEnum_eq, rEnum_r, iZip_eq, rZip_r, tSl, tPart, tNoPart, rSlL_r, rCat_r, rIn_r, rNin_r, rRepr_r, iRevR, rMin_r, rShr_i, rOdd_i, rSetL_r, gSub, rRg1_i, rRg2_i, rInr_r, tAug, ipI_ii, tLstRg, tRg1, tRg2, gTup_r, gUnl_r, rInt1_b, rInt1_i, rRep_r, tStep_r, scal, tSeq, tNext, tAsg, tRet, tRetN, tIfS, tDrop, tCB, tCons, tNil, tVar, tOp, tUn, tC, rU_i, rI_ii, rI0_ii, rEq, rNe, tTest, tB, tAnd, tOr, tNot, tAndV, tOrV, tNotV, tIf, tChain, tLst, tTup, tBM, tBM0, rAppend_r, rIxL_r, rIxT_r, rMx_ii, rMn_ii, rLnL_r, rLnT_r, rIsD_int, rIsD_bool, rIsD_list, rIsD_tuple, tCall, gName, gNil_n, gCons_c, cxK, L2.start, List.map, List.replicate, List.length_cons, List.length_nil, List.cons_append, List.nil_append, List.append_nil, List.getElem?_cons_zero, List.getElem?_cons_succ, Option.some.injEq, exists_eq_left', exists_eq_left, V.int.injEq, V.bl.injEq, V.str.injEq, V.ref.injEq, List.cons.injEq, and_true, true_and, and_self, List.set, wipe, rAll_r, rSum_r, reduceCtorEq, decide_true, decide_false, reduceIte, ite_true, ite_false, if_true, if_false, Bool.false_eq_true, Bool.not_true, Bool.not_false])
local macro_rules | `(tactic| walk_at "shaped") => `(tactic| (simp only [SeqAt.shaped, PyData.canLay0, PyData.canLayAll0, PyData.depth, PyData.depthAll]; rfl))
local macro_rules | `(tactic| walk_at "lay") => `(tactic| (simp only [PyData.canLay0, PyData.canLayAll0]; rfl))
section
variable {P : Program} {w : World} {K : PySem.W.Frag} {mg : Str → Option Value} {base : Heap}
abbrev s_settled : Stmt := top 63
theorem sc_settled : FnScope ["bakery", "lasts"] ["bakery"] (defScope s_settled) := ⟨rfl, rfl, rfl, by decide +kernel, rfl, by decide +kernel, by decide +kernel⟩
def spSettled (K : PySem.W.Frag) : Sp := fun vs H Q _ => ∃ x ls g, vs = [x] ∧ Th K H x (bakD ⟨ls, none, [g]⟩) ∧ bakB (bakD ⟨ls, none, [g]⟩) = true ∧ Steady g ∧
  ∀ (H' : Hp) (t p : Addr) (m : Nat) (os : List (Option Nat)), Same H H' → H t = none → H p = none → t ≠ p → H' t = some (.tup [.int (m : Int), .ref p]) → H' p = some (.lst ((litOf os m).map natI)) → Lasts g ls os → IsMany os ls.length m → m < os.length → Q (.ref t) H'
theorem ok_settled {f : Addr} {fd : FuncData} (F : Fun K "settled" "settled" s_settled f fd) (B : Bi mg) (D_last_lits : Def P w K mg base "last_lits" 10 ["bakery"] (spLasts K)) (D_settled_by : Def P w K mg base "settled_by" 2 ["lasts", "known"] (spSetBy K)) : FnOk P w K mg base CX0 11 f fd ["bakery"] (spSettled K) := by
  refine F.ok sc_settled (fun vs H Q E h => ?_) (fun cdv A outer s H vs Q E hr h => ?_)
  · obtain ⟨_, _, _, rfl, _⟩ := h
    rfl
  · obtain ⟨x, ls, g, rfl, hx, hb, hst, q⟩ := h
    refine ⟨_, (pss_cons (ps_set (i := 1) sc_settled.nd rfl (Or.inl rfl) (pe_callD D_last_lits hr (by rfl) (pa_cons (pv 0) pa_nil)))
 (pss_one (ps_ret (pe_callD D_settled_by hr (by rfl) (pa_cons (pv 1) (pa_cons (pe_op op_sub (pe_callB call_lnL (by rfl) B.len (by decide +kernel) (pa_cons (pv 1) pa_nil)) pe_int) pa_nil)))))), ?_⟩
    obtain ⟨⟨c1, c2⟩, _⟩ := bak_parts hb
    dsimp only at c1 c2
    walk_at "wp"
    refine ⟨_, ls, g, rfl, hx, hb, hst, fun H1 p os S1 hp e1 hL => ?_⟩
    have hol := hL.len
    walk_at "wp"
    refine ⟨_, SqL.of e1, ?_⟩
    refine ⟨p, os, ls.length, by rw [List.length_map, hol]; congr 3; omega, SqL.of e1, hL.down, by omega, by omega, fun H2 t p2 m S2 ht hp2 ne et ep hm hml => ?_⟩
    exact q _ t p2 m os (S1.trans S2) (S1.free ht) (S1.free hp2) ne et ep hL hm hml
def IsFore (os : List (Option Nat)) (k d : Nat) : Option Nat → Prop
  | none => ∀ j, j < k → ∀ m, IsMany os j m → m ≤ d
  | some j0 => j0 < k ∧ (∃ m, IsMany os j0 m ∧ d < m) ∧ ∀ j, j < j0 → ∀ m, IsMany os j m → m ≤ d
theorem IsFore.uniq {os : List (Option Nat)} {k d : Nat} {o o' : Option Nat} (h : IsFore os k d o) (h' : IsFore os k d o') : o = o' := by
  cases o with
  | none =>
    cases o' with
    | none => rfl
    | some j =>
      obtain ⟨h1, ⟨m, hm, hd⟩, _⟩ := h'
      have := h j h1 m hm
      omega
  | some j =>
    cases o' with
    | none =>
      obtain ⟨h1, ⟨m, hm, hd⟩, _⟩ := h
      have := h' j h1 m hm
      omega
    | some i =>
      obtain ⟨h1, ⟨m, hm, hd⟩, h3⟩ := h
      obtain ⟨g1, ⟨m', hm', hd'⟩, g3⟩ := h'
      congr 1
      by_cases a : i < j
      · have := h3 i a m' hm'
        omega
      · by_cases b : j < i
        · have := g3 j b m hm
          omega
        · omega
def stepF (f : Nat → Option Nat) (k i : Nat) : Nat → Option Nat := fun d => if d < i ∧ f d = none then some k else f d
theorem fore_step {os : List (Option Nat)} {k m d : Nat} {f : Nat → Option Nat} (hm : IsMany os k m) (h : IsFore os k d (f d)) : IsFore os (k + 1) d (stepF f k m d) := by
  unfold stepF
  by_cases hn : f d = none
  · rw [hn] at h
    by_cases hd : d < m
    · rw [if_pos ⟨hd, hn⟩]
      exact ⟨by omega, ⟨m, hm, hd⟩, h⟩
    · rw [if_neg (fun z => hd z.1), hn]
      intro j hj m' hm'
      by_cases e : j = k
      · subst e
        have := hm.uniq hm'
        omega
      · exact h j (by omega) m' hm'
  · rw [if_neg (fun z => hn z.2)]
    cases hf : f d with
    | none => exact absurd hf hn
    | some j =>
      rw [hf] at h
      exact ⟨by have := h.1; omega, h.2⟩
def foreL (n : Nat) (f : Nat → Option Nat) : List V := (List.range n).map fun d => natV (f d)
theorem foreL_len (n : Nat) (f : Nat → Option Nat) : (foreL n f).length = n := by
  unfold foreL
  rw [List.length_map, List.length_range]
theorem foreL_at {n d : Nat} (f : Nat → Option Nat) (h : d < n) : atI (foreL n f) (d : Int) = some (natV (f d)) := atI_nat (by
  unfold foreL
  rw [List.getElem?_map, List.getElem?_range h]
  rfl)
theorem foreL_set {n i : Nat} {f : Nat → Option Nat} {k : Nat} (h : i < n) (hf : f i = none) : (foreL n (stepF f k i)).set i (natV (some k)) = foreL n (stepF f k (i + 1)) := by
  apply List.ext_getElem?
  intro d
  rw [List.getElem?_set, foreL_len]
  unfold foreL stepF
  by_cases hd : d < n
  · rw [List.getElem?_map, List.getElem?_map, List.getElem?_range hd]
    simp only [Option.map_some]
    by_cases e : i = d
    · subst e
      rw [if_pos rfl, if_pos h, if_pos ⟨by omega, hf⟩]
    · rw [if_neg e]
      congr 2
      by_cases a : d < i
      · by_cases b : f d = none
        · rw [if_pos ⟨a, b⟩, if_pos ⟨by omega, b⟩]
        · rw [if_neg (fun z => b z.2), if_neg (fun z => b z.2)]
      · rw [if_neg (fun z => a z.1), if_neg (fun z => by have := z.1; omega)]
  · rw [List.getElem?_eq_none (by rw [List.length_map, List.length_range]; omega), List.getElem?_eq_none (by rw [List.length_map, List.length_range]; omega)]
    split
    · omega
    · rfl
theorem stepF_skip {f : Nat → Option Nat} {k i j : Nat} (hf : f i = some j) : stepF f k (i + 1) = stepF f k i := by
  funext d
  unfold stepF
  by_cases e : d = i
  · subst e
    rw [if_neg (fun z => by rw [hf] at z; cases z.2), if_neg (fun z => by have := z.1; omega)]
  · by_cases a : d < i ∧ f d = none
    · rw [if_pos a, if_pos ⟨by omega, a.2⟩]
    · rw [if_neg a, if_neg (fun z => a ⟨by have := z.1; omega, z.2⟩)]
theorem stepF_at {f : Nat → Option Nat} {k i : Nat} : stepF f k i i = f i := by
  unfold stepF
  rw [if_neg (fun z => by have := z.1; omega)]
theorem stepF_zero {f : Nat → Option Nat} {k : Nat} : stepF f k 0 = f := by
  funext d
  unfold stepF
  rw [if_neg (fun z => by have := z.1; omega)]
end
end Bk

namespace Bk
open PySem PySem.Spec PyProof.Rows L2
local macro_rules | `(tactic| walk_at "wp") => `(tactic| try simp only [rSetOf_r, rSortedSet_r, rNinr_r, rNeN_r, rCatL_r, rSlT_r, rListOf_r, rIsB_b, rNotB_b, tFmtO, tJs, tOst, tCallS, WE, tRaise2, rOne_i, rSorD_r, tDNewK, Int.zero_add, tNever, tFor_eq, tLc_eq, iList, iTup, iRng1_eq, rRng1_i, iRng2_eq, rRng2_i, iEnum_eq, rEnum_r, iZip_eq, rZip_r, tSl, tPart, tNoPart, rSlL_r, rCat_r, rIn_r, rNin_r, rRepr_r, iRevR, rMin_r, rShr_i, rOdd_i, rSetL_r, gSub, rRg1_i, rRg2_i, rInr_r, tAug, ipI_ii, tLstRg, tRg1, tRg2, gTup_r, gUnl_r, rInt1_b, rInt1_i, rRep_r, tStep_r, scal, tSeq, tNext, tAsg, tRet, tRetN, tIfS, tDrop, tCB, tCons, tNil, tVar, tOp, tUn, tC, rU_i, rI_ii, rI0_ii, rEq, rNe, tTest, tB, tAnd, tOr, tNot, tAndV, tOrV, tNotV, tIf, tChain, tLst, tTup, tBM, tBM0, rAppend_r, rIxL_r, rIxT_r, rMx_ii, rMn_ii, rLnL_r, rLnT_r, rIsD_int, rIsD_bool, rIsD_list, rIsD_tuple, tCall, gName, gNil_n, gCons_c, cxK, L2.start, List.map, List.replicate, List.length_cons, List.length_nil, List.cons_append, List.nil_append, List.append_nil, List.getElem?_cons_zero, List.getElem?_cons_succ, Option.some.injEq, exists_eq_left', exists_eq_left, V.int.injEq, V.bl.injEq, V.str.injEq, V.ref.injEq, List.cons.injEq, and_true, true_and, and_self, List.set, wipe, rAll_r, rSum_r, reduceCtorEq, decide_true, decide_false, reduceIte, ite_true, ite_false, if_true, if_false, Bool.false_eq_true, Bool.not_true, Bool.not_false])
local macro_rules | `(tactic| walk_at "shaped") => `(tactic| (simp only [SeqAt.shaped, PyData.canLay0, PyData.canLayAll0, PyData.depth, PyData.depthAll]; rfl))
local macro_rules | `(tactic| walk_at "lay") => `(tactic| (simp only [PyData.canLay0, PyData.canLayAll0]; rfl))
local macro_rules | `(tactic| walk_at "wg") => `(tactic| try simp only [gName, gTup_r, gCons_c, gNil_n, cxK, List.set, List.cons.injEq, and_true, true_and, exists_eq_left', exists_eq_left, List.length_cons, List.length_nil])
section
variable {P : Program} {w : World} {K : PySem.W.Frag} {mg : Str → Option Value} {base : Heap}
abbrev s_first_baked_on : Stmt := top 38
theorem sc_first_baked_on : FnScope ["row", "light", "prices", "many", "cost", "first"] ["row", "light", "prices", "many"] (defScope s_first_baked_on) := ⟨rfl, rfl, rfl, by decide +kernel, rfl, by decide +kernel, by decide +kernel⟩
def spFbo (K : PySem.W.Frag) : Sp := fun vs H Q _ => ∃ (ra pa : Addr) (xs ys : List V) (row : Nat → Int) (wf : Nat → Option Int) (light : Int) (m : Nat), vs = [.ref ra, .int light, .ref pa, .int (m : Int)] ∧ SqL K H ra xs ∧ SqL K H pa ys ∧ (∀ i, i ≤ m → xs[i]? = some (.int (row i))) ∧ (∀ i, i < m → ys[i]? = some (optV (wf i))) ∧ m ≤ 1000 ∧ Q (natV (fbo row wf (row m) m light)) H
def FbI (ra pa : Addr) (light : Int) (row : Nat → Int) (wf : Nat → Option Int) (m : Nat) (H : Hp) (i : Nat) (σ : L2.St) (H' : Hp) : Prop := H' = H ∧ ∃ (c : Int) (y : Option V), σ = [some (.ref ra), some (.int light), some (.ref pa), some (.int (m : Int)), some (.int c), y] ∧ fbo row wf (row m) (m - i) c = fbo row wf (row m) m light
theorem ok_first_baked_on {f : Addr} {fd : FuncData} (F : Fun K "first_baked_on" "first_baked_on" s_first_baked_on f fd) (B : Bi mg) (Br : mg "reversed" = none) : FnOk P w K mg base CX0 1 f fd ["row", "light", "prices", "many"] (spFbo K) := by
  refine F.ok sc_first_baked_on (fun vs H Q E h => ?_) (fun cdv A outer s H vs Q E hr h => ?_)
  · obtain ⟨_, _, _, _, _, _, _, _, rfl, _⟩ := h
    rfl
  · obtain ⟨ra, pa, xs, ys, row, wf, light, m, rfl, hra, hpa, hx, hy, hm, q⟩ := h
    refine ⟨_, (pss_cons (ps_set (i := 4) sc_first_baked_on.nd rfl (Or.inl rfl) (pv 1))
 (pss_cons (ps_for PassesOwn.never rfl (pi_revR (by rfl) Br (prg_1 (by rfl) B.range (pv 3))) (pg_name (i := 5) sc_first_baked_on.nd rfl (Or.inl rfl)) (pss_cons (ps_if (pt_cmpR op_isN (pe_ix ix_list (pv 2) (pv 5) (fun _ _ => rfl)) pe_non (nomark _)) (pss_one (ps_ret pe_non)) pss_nil)
 (pss_cons (ps_aug (i := 4) sc_first_baked_on.nd rfl (Or.inl rfl) (pe_ix ix_list (pv 2) (pv 5) (fun _ _ => rfl)) ip_add)
 (pss_one (ps_if (pt_cmpR op_eq (pe_op op_add (pe_ix ix_list (pv 0) (pv 5) (fun _ _ => rfl)) (pv 4)) (pe_ix ix_list (pv 0) (pv 3) (fun _ _ => rfl)) (nomark _)) (pss_one (ps_ret (pv 5))) pss_nil)))))
 (pss_one (ps_ret pe_non)))), ?_⟩
    walk_at "wp"
    refine ⟨by omega, by omega, by omega, by omega, ?_⟩
    rw [show ((m : Int) - 0).toNat = m by omega]
    refine LoopR.by walk_rangeC (FbI ra pa light row wf m H) ⟨rfl, light, none, rfl, rfl⟩ (fun _ _ _ _ _ => trivial) (fun i v σ H0 H2 hi hI hY => ?_) (fun σ H2 hI => ?_)
    · obtain ⟨rfl, rfl⟩ := hY
      obtain ⟨rfl, c, y, rfl, hl⟩ := hI
      have ej : (m : Int) - 1 + (i : Int) * -1 = ((m - (i + 1) : Nat) : Int) := by omega
      dsimp only
      rw [ej]
      have hlt : m - (i + 1) < m := by omega
      have h1 := hx _ (Nat.le_of_lt hlt)
      have h2 := hy _ hlt
      rw [show m - i = (m - (i + 1)) + 1 by omega] at hl
      have eI : ∀ σ, (∃ (c : Int) (y : Option V), σ = [some (.ref ra), some (.int light), some (.ref pa), some (.int (m : Int)), some (.int c), y] ∧ fbo row wf (row m) (m - (i + 1)) c = fbo row wf (row m) m light) → FbI ra pa light row wf m H2 (i + 1) σ H2 := fun σ h => ⟨rfl, h⟩
      generalize FbI ra pa light row wf m H2 (i + 1) = NX at eI ⊢
      generalize m - (i + 1) = j at h1 h2 hl hlt eI ⊢
      walk_at "wp"
      refine ⟨_, _, hpa, atI_nat h2, ?_⟩
      generalize fbo row wf (row m) m light = L at q hl eI
      unfold fbo at hl
      cases hw : wf j with
      | none =>
        rw [hw] at hl
        simp only [optV]
        walk_at "wp"
        have hl : none = L := hl
        rw [← hl] at q
        exact q
      | some p =>
        rw [hw] at hl h2
        dsimp only at hl
        simp only [optV]
        walk_at "wp"
        refine ⟨_, _, hpa, atI_nat h2, ?_⟩
        simp only [optV]
        walk_at "wp"
        refine ⟨_, _, hra, atI_nat h1, ?_⟩
        walk_at "wp"
        refine ⟨_, _, hra, atI_nat (hx m (Nat.le_refl _)), ?_⟩
        walk_at "wp"
        by_cases e : row j + (c + p) = row m
        · rw [if_pos e] at hl
          rw [decide_eq_true e]
          walk_at "wp"
          rw [← hl] at q
          exact q
        · rw [if_neg e] at hl
          rw [decide_eq_false e]
          walk_at "wp"
          exact eI _ ⟨_, _, rfl, hl⟩
    · obtain ⟨rfl, c, y, rfl, hl⟩ := hI
      rw [Nat.sub_self] at hl
      have hl : none = fbo row wf (row m) m light := hl
      walk_at "wp"
      rw [← hl] at q
      exact q
abbrev s_last_stretch : Stmt := top 39
theorem sc_last_stretch : FnScope ["row", "lights", "table", "many", "firsts", "baked", "first"] ["row", "lights", "table", "many"] (defScope s_last_stretch) := ⟨rfl, rfl, rfl, by decide +kernel, rfl, by decide +kernel, by decide +kernel⟩
def spLstr (K : PySem.W.Frag) : Sp := fun vs H Q _ => ∃ (ra la ta : Addr) (xs zs ts : List V) (row lights : Nat → Int) (g : Good) (n m : Nat), vs = [.ref ra, .ref la, .ref ta, .int (m : Int)] ∧ SqL K H ra xs ∧ SqL K H la zs ∧ SqL K H ta ts ∧ (∀ i, i ≤ n → xs[i]? = some (.int (row i))) ∧ (∀ i, i < n → zs[i]? = some (.int (lights i))) ∧
  (∀ b, b < n → ∃ p, ts[b]? = some (.ref p) ∧ SqL K H p ((List.range n).map fun k => optV (wantP g b k))) ∧ m ≤ n ∧ n ≤ 1000 ∧ (∃ b f s, b < m ∧ f < m ∧ segP (wantP g b) f (m - f) = some s ∧ row f + lights b + s = row m) ∧
  ∀ (H' : Hp) (t : Addr) (b f : Nat) (s : Int), Same H H' → H t = none → H' t = some (.tup [.int (b : Int), .int (f : Int)]) → b < m → f < m → segP (wantP g b) f (m - f) = some s → row f + lights b + s = row m → First (fsOf g lights row m) m b f → Q (.ref t) H'
theorem ok_last_stretch {f : Addr} {fd : FuncData} (F : Fun K "last_stretch" "last_stretch" s_last_stretch f fd) (B : Bi mg) (D_first_baked_on : Def P w K mg base "first_baked_on" 1 ["row", "light", "prices", "many"] (spFbo K)) : FnOk P w K mg base CX0 2 f fd ["row", "lights", "table", "many"] (spLstr K) := by
  refine F.ok sc_last_stretch (fun vs H Q E h => ?_) (fun cdv A outer s H vs Q E hr h => ?_)
  · obtain ⟨_, _, _, _, _, _, _, _, _, _, _, rfl, _⟩ := h
    rfl
  · obtain ⟨ra, la, ta, xs, zs, ts, row, lights, g, n, m, rfl, hra, hla, hta, hx, hz, ht, hmn, hn, hex, q⟩ := h
    refine ⟨_, (pss_cons (ps_setLc (i := 4) (own := [("baked", 5)]) (g := (gName 5)) (te := (tCall _ _ _ (tCons _ (tCons (tOp (rIxL K) _ _) (tCons (tOp (rIxL K) _ _) (tCons _ tNil)))))) rfl sc_last_stretch.nd rfl rfl (sw_true rfl rfl rfl (by decide +kernel)) (pi_range1 (by rfl) B.range (pa_cons (pv 3) pa_nil)) (blkOk_by (own := [("baked", 5)]) (N := ["row", "lights", "table", "many", "firsts", "baked", "first"]) (sc := defScope s_last_stretch) (by decide +kernel)) (fun _ _ _ _ _ => (pg_name (i := 5) sc_last_stretch.nd rfl (Or.inl rfl))) (fun _ _ _ _ _ => pts_nil) (fun _ _ _ _ _ => (pe_callD D_first_baked_on hr (by rfl) (pa_cons (pv 0) (pa_cons (pe_ix ix_list (pv 1) (pv 5) (fun _ _ => rfl)) (pa_cons (pe_ix ix_list (pv 2) (pv 5) (fun _ _ => rfl)) (pa_cons (pv 3) pa_nil)))))))
 (pss_one (ps_ret (pe_ix ix_list (pe_lc (own := [("baked", 5), ("first", 6)]) (g := (gTup K 2 (gCons (gName 5) (gCons (gName 6) gNil)))) rfl sc_last_stretch.nd (pi_enum (by rfl) B.enumerate (pa_cons (pv 4) pa_nil)) (blkOk_by (own := [("baked", 5), ("first", 6)]) (N := ["row", "lights", "table", "many", "firsts", "baked", "first"]) (sc := defScope s_last_stretch) (by decide +kernel)) (fun _ _ _ _ _ => (pg_tup rfl (pgs_cons (pg_name (i := 5) sc_last_stretch.nd rfl (Or.inl rfl)) (pgs_cons (pg_name (i := 6) sc_last_stretch.nd rfl (Or.inl rfl)) pgs_nil)))) (fun _ _ _ _ _ => (pts_one (pt_cmpR op_notN (pv 6) pe_non (nomark _)))) (fun _ _ _ _ _ => (pe_tup (pa_cons (pv 5) (pa_cons (pv 6) pa_nil))))) pe_int (fun _ _ => rfl))))), ?_⟩
    walk_at "wp"
    refine ⟨by omega, by omega, fun D hD => ?_⟩
    rw [Int.toNat_natCast]
    obtain ⟨fs, hfs⟩ : ∃ fs : Nat → Option Nat, ∀ b, fs b = fbo row (wantP g b) (row m) m (lights b) := ⟨_, fun _ => rfl⟩
    refine LcR.map walk_range ((List.range m).map fun b => natV (fs b)) hD (by rw [List.length_map, List.length_range]) (by omega) (fun _ _ => trivial) (fun _ _ _ _ y => yfn_same y) (fun b v y H0 H1 hb s1 yy hy R hR => ?_) (fun H1 s1 hH1 => ?_)
    · obtain ⟨rfl, rfl⟩ := yy
      rw [List.getElem?_map, List.getElem?_range hb] at hy
      cases hy
      obtain ⟨p, e1, e2⟩ := ht b (by omega)
      walk_at "wp"
      refine ⟨_, _, s1.seq hla, atI_nat (hz b (by omega)), ?_⟩
      walk_at "wp"
      refine ⟨_, _, s1.seq hta, atI_nat e1, ra, p, xs, _, row, wantP g b, lights b, m, rfl, s1.seq hra, s1.seq e2, fun i hi => hx i (by omega), fun i hi => by rw [List.getElem?_map, List.getElem?_range (by omega)]; rfl, by omega, ?_⟩
      rw [← hfs]
      exact hR _ (Same.refl _)
    · walk_at "wp"
      refine ⟨_, SqL.of hH1, fun D2 hD2 => ?_⟩
      have ne : D2 ≠ D := fun z => by rw [z, hH1] at hD2; cases hD2
      refine LcR.by (walk_enum (xs := (List.range m).map fun b => natV (fs b))) (fun i H' => Same H1 H' ∧ ∃ acc : List V, H' D2 = some (.lst acc) ∧ acc.length ≤ i ∧ ((acc = [] ∧ ∀ b, b < i → fs b = none) ∨ ∃ (t : Addr) (b f : Nat), acc[0]? = some (.ref t) ∧ t ≠ D2 ∧ H1 t = none ∧ H' t = some (.tup [.int (b : Int), .int (f : Int)]) ∧ b < m ∧ fs b = some f ∧ ∀ c, c < b → fs c = none)) ⟨same_upd hD2, [], upd_same, Nat.le_refl _, .inl ⟨rfl, fun b hb => by omega⟩⟩ (fun i H' _ h => h.1.seq (SqL.of hH1)) (fun i v H0 H2 hi hI hY => ?_) (fun H2 hI => ?_)
      · obtain ⟨S2, acc, ea, hal, hcase⟩ := hI
        have SY := ypair_same hY
        have S3 := S2.trans SY
        obtain ⟨T, z1, z2, rfl, hT, rfl, e1, e2⟩ := hY
        cases e1
        have e2 : ((List.range m).map fun b => natV (fs b))[i]? = some z2 := e2
        rw [List.length_map, List.length_range] at hi
        rw [List.getElem?_map, List.getElem?_range hi] at e2
        cases e2
        have ea3 := SY _ _ ea
        have keep : (acc = [] ∧ ∀ b, b < i → fs b = none) ∨ (∃ (t : Addr) (b f : Nat), acc[0]? = some (.ref t) ∧ t ≠ D2 ∧ H1 t = none ∧ upd H0 T (.tup [V.int (i : Int), natV (fs i)]) t = some (.tup [.int (b : Int), .int (f : Int)]) ∧ b < m ∧ fs b = some f ∧ ∀ c, c < b → fs c = none) := by
          rcases hcase with z | ⟨t, b, f, a1, a2, a3, a4, a5, a6⟩
          · exact .inl z
          · exact .inr ⟨t, b, f, a1, a2, a3, SY _ _ a4, a5, a6⟩
        walk_at "wp"
        refine ⟨_, SqT.of upd_same, rfl, ?_⟩
        generalize upd H0 T (.tup [V.int (i : Int), natV (fs i)]) = H3 at S3 ea3 keep ⊢
        walk_at "wp"
        cases hf : fs i with
        | none =>
          rw [show natV none = V.non from rfl]
          walk_at "wp"
          refine ⟨S3, acc, ea3, by omega, ?_⟩
          rcases keep with ⟨z1, z2⟩ | z
          · refine .inl ⟨z1, fun b hb => ?_⟩
            by_cases e : b = i
            · rw [e]; exact hf
            · exact z2 b (by omega)
          · exact .inr z
        | some f0 =>
          rw [show natV (some f0) = V.int (f0 : Int) from rfl]
          walk_at "wp"
          refine ⟨sz100 (by decide), fun t4 ht4 => ?_⟩
          have S4 := same_upd (o := .tup [V.int (i : Int), V.int (f0 : Int)]) ht4
          have E4 : upd H3 t4 (.tup [V.int (i : Int), V.int (f0 : Int)]) t4 = some (.tup [V.int (i : Int), V.int (f0 : Int)]) := upd_same
          generalize upd H3 t4 (.tup [V.int (i : Int), V.int (f0 : Int)]) = H4 at S4 E4 ⊢
          have n4 : t4 ≠ D2 := fun z => by rw [z, ea3] at ht4; cases ht4
          refine ⟨_, S4 _ _ ea3, sz100l (by omega), same_mut (S3.trans S4) hD2, acc ++ [.ref t4], upd_same, by rw [List.length_append, List.length_singleton]; omega, .inr ?_⟩
          rcases keep with ⟨z1, z2⟩ | ⟨t, b, f, a1, a2, a3, a4, a5, a6⟩
          · exact ⟨t4, i, f0, by rw [z1]; rfl, n4, S3.free ht4, by rw [upd_ne n4]; exact E4, hi, hf, z2⟩
          · refine ⟨t, b, f, ?_, a2, a3, by rw [upd_ne a2]; exact S4 _ _ a4, a5, a6⟩
            rw [List.getElem?_append_left (List.getElem?_eq_some_iff.mp a1).1]
            exact a1
      · obtain ⟨S2, acc, ea, hal, hcase⟩ := hI
        rw [List.length_map, List.length_range] at hcase
        rcases hcase with ⟨z1, z2⟩ | ⟨t, b, f, a1, a2, a3, a4, a5, a6⟩
        · obtain ⟨b, f, s, hb, hf, h1, h2⟩ := hex
          obtain ⟨f', hf'⟩ := fbo_ex (row := row) (T := row m) hf h1 h2
          have := z2 b hb
          rw [hfs] at this
          rw [hf'] at this
          cases this
        · obtain ⟨a6, a7⟩ := a6
          have hF : First (fsOf g lights row m) m b f := ⟨a5, (hfs b).symm.trans a6, fun c hc => (hfs c).symm.trans (a7 c hc)⟩
          rw [hfs] at a6
          obtain ⟨h1, s, h2, h3⟩ := fbo_some a6
          refine ⟨_, _, SqL.of ea, atI_nat (j := 0) a1, q _ t b f s (s1.trans S2) (s1.free a3) a4 a5 h1 h2 h3 hF⟩
abbrev s_stretch_rows : Stmt := top 40
theorem sc_stretch_rows : FnScope ["days", "baked", "first", "behind", "wants", "want", "loaf", "keep", "fine", "given"] ["days", "baked", "first", "behind"] (defScope s_stretch_rows) := ⟨rfl, rfl, rfl, by decide +kernel, rfl, by decide +kernel, by decide +kernel⟩
def planV (g : Good) (H : Hp) (D : Addr) (rs : List Addr) (es : List (Nat × Nat)) : Prop := Paired (fun r (e : Nat × Nat) => r ≠ D ∧ H r = some (.tup [.int (e.1 : Int), .int 0, .int (e.2 : Int), .int (wantN g e.2)])) rs es
def spSrows (K : PySem.W.Frag) : Sp := fun vs H Q _ => ∃ (x : V) (g : Good) (b f m : Nat), vs = [x, .int (b : Int), .int (f : Int), .int (m : Int)] ∧ Th K H x (.list (g.days.map dayD)) ∧ (∀ d ∈ g.days, dayB (dayD d) = true) ∧ f ≤ m ∧ m ≤ g.days.length ∧ g.days.length ≤ 1000 ∧
  ∀ (H' : Hp) (p : Addr) (rs : List Addr), Same H H' → H p = none → H' p = some (.lst (rs.map V.ref)) → planV g H' p rs (strE g b f m) → (∀ r ∈ rs, H r = none) → Q (.ref p) H'
theorem strE_snoc (g : Good) (b f i : Nat) : strE g b f (f + (i + 1)) = strE g b f (f + i) ++ (if wantN g (f + i) ≠ 0 then [(b, f + i)] else []) := by
  unfold strE
  rw [show f + (i + 1) - f = i + 1 by omega, show f + i - f = i by omega, List.range_succ, List.map_append, List.filter_append, List.map_append]
  congr 1
  by_cases e : wantN g (f + i) ≠ 0
  · rw [if_pos e]
    simp [e]
  · rw [if_neg e]
    simp only [List.map_cons, List.map_nil]
    rw [List.filter_cons_of_neg (by simpa using e)]
    rfl
theorem strE_len (g : Good) (b f m : Nat) : (strE g b f m).length ≤ m - f := by
  unfold strE
  rw [List.length_map]
  refine Nat.le_trans (List.length_filter_le _ _) ?_
  rw [List.length_map, List.length_range]
  exact Nat.le_refl _
theorem ok_stretch_rows {f : Addr} {fd : FuncData} (F : Fun K "stretch_rows" "stretch_rows" s_stretch_rows f fd) (B : Bi mg) : FnOk P w K mg base CX0 1 f fd ["days", "baked", "first", "behind"] (spSrows K) := by
  refine F.ok sc_stretch_rows (fun vs H Q E h => ?_) (fun cdv A outer s H vs Q E hr h => ?_)
  · obtain ⟨_, _, _, _, _, rfl, _⟩ := h
    rfl
  · obtain ⟨x, g, b, f, m, rfl, hx, hok, hfm, hmn, hn, q⟩ := h
    refine ⟨_, (pss_cons (ps_set (i := 4) sc_stretch_rows.nd rfl (Or.inr rfl) (pe_lc (own := [("want", 5), ("loaf", 6), ("keep", 7), ("fine", 8)]) (g := (gTup K 4 (gCons (gName 5) (gCons (gName 6) (gCons (gName 7) (gCons (gName 8) gNil)))))) rfl sc_stretch_rows.nd (pi_list (pv 0)) (blkOk_by (own := [("want", 5), ("loaf", 6), ("keep", 7), ("fine", 8)]) (N := ["days", "baked", "first", "behind", "wants", "want", "loaf", "keep", "fine", "given"]) (sc := defScope s_stretch_rows) (by decide +kernel)) (fun _ _ _ _ _ => (pg_tup rfl (pgs_cons (pg_name (i := 5) sc_stretch_rows.nd rfl (Or.inl rfl)) (pgs_cons (pg_name (i := 6) sc_stretch_rows.nd rfl (Or.inl rfl)) (pgs_cons (pg_name (i := 7) sc_stretch_rows.nd rfl (Or.inl rfl)) (pgs_cons (pg_name (i := 8) sc_stretch_rows.nd rfl (Or.inl rfl)) pgs_nil)))))) (fun _ _ _ _ _ => pts_nil) (fun _ _ _ _ _ => (pv 5))))
 (pss_one (ps_ret (pe_lc (own := [("given", 9)]) (g := (gName 9)) (te := (tTup (tCons _ (tCons _ (tCons _ (tCons (tOp (rIxL K) _ _) tNil)))))) (tt := (tTest (tOp _ (tOp (rIxL K) _ _) _))) rfl sc_stretch_rows.nd (pi_range2 (by rfl) B.range (pa_cons (pv 2) (pa_cons (pv 3) pa_nil))) (blkOk_by (own := [("given", 9)]) (N := ["days", "baked", "first", "behind", "wants", "want", "loaf", "keep", "fine", "given"]) (sc := defScope s_stretch_rows) (by decide +kernel)) (fun _ _ _ _ _ => (pg_name (i := 9) sc_stretch_rows.nd rfl (Or.inl rfl))) (fun _ _ _ _ _ => (pts_one (pt_cmpR op_gt (pe_ix ix_list (pv 4) (pv 9) (fun _ _ => rfl)) pe_int (nomark _)))) (fun _ _ _ _ _ => (pe_tup (pa_cons (pv 1) (pa_cons pe_int (pa_cons (pv 9) (pa_cons (pe_ix ix_list (pv 4) (pv 9) (fun _ _ => rfl)) pa_nil)))))))))), ?_⟩
    cases hx with
    | @lst a xs _ hs ha =>
    have hxs := ha.length
    rw [List.length_map] at hxs
    walk_at "wp"
    refine ⟨⟨_, hs⟩, fun D hD => ?_⟩
    refine LcR.map (walk_list (xs := xs)) ((g.days.map fun d => d.want).map V.int) hD (by rw [List.length_map, List.length_map, hxs]) (by omega) (fun H s => s.seq hs) (fun _ _ _ _ y => yat_same y) (fun i x y H0 H4 hi s4 yy hy R hR2 => ?_) (fun H1 s1 hH1 => ?_)
    · obtain ⟨rfl, hx⟩ := yy
      obtain ⟨dd, hdd, hxd⟩ := ha.get hx
      rw [List.getElem?_map] at hdd
      rw [List.getElem?_map, List.getElem?_map] at hy
      cases hc : g.days[i]? with
      | none => rw [hc] at hdd; cases hdd
      | some c =>
        rw [hc] at hdd hy
        cases hdd
        cases hy
        obtain ⟨t, rfl, ht⟩ := (hxd.same s4).day
        walk_at "wp"
        refine ⟨_, ht, rfl, ?_⟩
        walk_at "wp"
        exact hR2 _ (Same.refl _)
    · have wAt : ∀ k, k < g.days.length → atI ((g.days.map fun d => d.want).map V.int) (k : Int) = some (.int (wantN g k)) := fun k hk => atI_nat (by
        rw [List.getElem?_map, List.getElem?_map, List.getElem?_eq_getElem hk]
        unfold wantN
        rw [List.getElem?_eq_getElem hk]
        rfl)
      have wNN : ∀ k, k < g.days.length → 0 ≤ wantN g k := fun k hk => by
        unfold wantN
        rw [List.getElem?_eq_getElem hk]
        have := hok _ (List.getElem_mem hk)
        simp only [dayD, dayB, numD, Bool.and_eq_true, decide_eq_true_eq] at this
        exact this.1.1.1.1
      walk_at "wp"
      refine ⟨⟨by omega, by omega, by omega, by omega⟩, fun D2 hD2 => ?_⟩
      rw [show ((m : Int) - (f : Int)).toNat = m - f by omega]
      have ne : D2 ≠ D := fun z => by rw [z, hH1] at hD2; cases hD2
      refine LcR.by walk_range (fun i H' => Same H1 H' ∧ ∃ rs : List Addr, H' D2 = some (.lst (rs.map V.ref)) ∧ planV g H' D2 rs (strE g b f (f + i)) ∧ ∀ r ∈ rs, H1 r = none) ⟨same_upd hD2, [], upd_same, by unfold strE; rw [Nat.add_zero, Nat.sub_self]; exact .nil, fun r hr => by cases hr⟩ (fun _ _ _ _ => trivial) (fun i v H0 H2 hi hI hY => ?_) (fun H2 hI => ?_)
      · obtain ⟨rfl, rfl⟩ := hY
        obtain ⟨S2, rs, er, hp, hr⟩ := hI
        have hk : f + i < g.days.length := by omega
        have hw0 := wNN (f + i) hk
        have hpl := hp.length
        have hsl := strE_len g b f (f + i)
        dsimp only
        rw [show (f : Int) + (i : Int) = ((f + i : Nat) : Int) by omega]
        rw [strE_snoc]
        walk_at "wp"
        refine ⟨_, _, SqL.of (S2 _ _ hH1), wAt (f + i) hk, ?_⟩
        walk_at "wp"
        by_cases e : wantN g (f + i) ≠ 0
        · rw [if_pos e, show decide (0 < wantN g (f + i)) = true from decide_eq_true (by omega)]
          walk_at "wp"
          refine ⟨_, _, SqL.of (S2 _ _ hH1), wAt (f + i) hk, sz100 (by decide), fun t ht => ?_⟩
          have S3 := same_upd (o := .tup [V.int (b : Int), V.int 0, V.int ((f + i : Nat) : Int), V.int (wantN g (f + i))]) ht
          have E3 : upd H2 t (.tup [V.int (b : Int), V.int 0, V.int ((f + i : Nat) : Int), V.int (wantN g (f + i))]) t = some (.tup [V.int (b : Int), V.int 0, V.int ((f + i : Nat) : Int), V.int (wantN g (f + i))]) := upd_same
          generalize upd H2 t (.tup [V.int (b : Int), V.int 0, V.int ((f + i : Nat) : Int), V.int (wantN g (f + i))]) = H3 at S3 E3 ⊢
          have nt : t ≠ D2 := fun z => by rw [z, er] at ht; cases ht
          refine ⟨_, S3 _ _ er, sz100l (by rw [List.length_map]; omega), same_mut (S2.trans S3) hD2, rs ++ [t], by rw [upd_same, List.map_append]; rfl, ?_, fun r hr2 => ?_⟩
          · exact Paired.snoc (PySem.Paired.mono (fun r e2 ⟨z1, z2⟩ => ⟨z1, by rw [upd_ne z1]; exact S3 _ _ z2⟩) hp) ⟨nt, by rw [upd_ne nt]; exact E3⟩
          · rcases List.mem_append.mp hr2 with z | z
            · exact hr r z
            · rw [List.mem_singleton.mp z]
              exact S2.free ht
        · rw [if_neg e, List.append_nil, show decide (0 < wantN g (f + i)) = false from decide_eq_false (by omega)]
          walk_at "wp"
          exact ⟨S2, rs, er, hp, hr⟩
      · obtain ⟨S2, rs, er, hp, hr⟩ := hI
        rw [show f + (m - f) = m by omega] at hp
        exact q _ D2 rs (s1.trans S2) (s1.free hD2) er hp fun r h => s1.free (hr r h)
end
end Bk

namespace Bk
open PySem PySem.Spec PyProof.Rows L2
local macro_rules | `(tactic| walk_at "wp") => `(tactic| try simp only [rExtend_r, rSortU_r, rSetOf_r, rSortedSet_r, rNinr_r, rNeN_r, rCatL_r, rSlT_r, rListOf_r, rIsB_b, rNotB_b, tFmtO, tJs, tOst, tCallS, WE, tRaise2, rOne_i, rSorD_r, tDNewK, Int.zero_add, tNever, tFor_eq, tLc_eq, iList, iTup, iRng1_eq, rRng1_i, iRng2_eq, rRng2_i, iEnum_eq, rEnum_r, iZip_eq, rZip_r, tSl, tPart, tNoPart, rSlL_r, rCat_r, rIn_r, rNin_r, rRepr_r, iRevR, rMin_r, rShr_i, rOdd_i, rSetL_r, gSub, rRg1_i, rRg2_i, rInr_r, tAug, ipI_ii, tLstRg, tRg1, tRg2, gTup_r, gUnl_r, rInt1_b, rInt1_i, rRep_r, tStep_r, scal, tSeq, tNext, tAsg, tRet, tRetN, tIfS, tDrop, tCB, tCons, tNil, tVar, tOp, tUn, tC, rU_i, rI_ii, rI0_ii, rEq, rNe, tTest, tB, tAnd, tOr, tNot, tAndV, tOrV, tNotV, tIf, tChain, tLst, tTup, tBM, tBM0, rAppend_r, rIxL_r, rIxT_r, rMx_ii, rMn_ii, rLnL_r, rLnT_r, rIsD_int, rIsD_bool, rIsD_list, rIsD_tuple, tCall, gName, gNil_n, gCons_c, cxK, L2.start, List.map, List.replicate, List.length_cons, List.length_nil, List.cons_append, List.nil_append, List.append_nil, List.getElem?_cons_zero, List.getElem?_cons_succ, Option.some.injEq, exists_eq_left', exists_eq_left, V.int.injEq, V.bl.injEq, V.str.injEq, V.ref.injEq, List.cons.injEq, and_true, true_and, and_self, List.set, wipe, rAll_r, rSum_r, reduceCtorEq, decide_true, decide_false, reduceIte, ite_true, ite_false, if_true, if_false, Bool.false_eq_true, Bool.not_true, Bool.not_false])
local macro_rules | `(tactic| walk_at "shaped") => `(tactic| (simp only [SeqAt.shaped, PyData.canLay0, PyData.canLayAll0, PyData.depth, PyData.depthAll]; rfl))
local macro_rules | `(tactic| walk_at "lay") => `(tactic| (simp only [PyData.canLay0, PyData.canLayAll0]; rfl))
local macro_rules | `(tactic| walk_at "wg") => `(tactic| try simp only [gName, gTup_r, gCons_c, gNil_n, cxK, List.set, List.cons.injEq, and_true, true_and, exists_eq_left', exists_eq_left, List.length_cons, List.length_nil])
section
variable {P : Program} {w : World} {K : PySem.W.Frag} {mg : Str → Option Value} {base : Heap}
abbrev s_cheapest : Stmt := top 41
theorem sc_cheapest : FnScope ["bakery", "row", "lights", "bound", "goods", "days", "life", "table", "plan", "many", "baked", "first"] ["bakery"] (defScope s_cheapest) := ⟨rfl, rfl, rfl, by decide +kernel, rfl, by decide +kernel, by decide +kernel⟩
theorem rowF_nth {rs : List Int} {f : Nat} (h : f < rs.length) : rs[f]? = some (rowF rs f) := by
  unfold rowF
  rw [List.getD_eq_getElem?_getD, List.getElem?_eq_getElem h]
  rfl
theorem _root_.List.Perm.sum_int {l1 l2 : List Int} (h : l1.Perm l2) : l1.sum = l2.sum := by
  induction h with
  | nil => rfl
  | cons x _ ih => rw [List.sum_cons, List.sum_cons, ih]
  | swap x y l => rw [List.sum_cons, List.sum_cons, List.sum_cons, List.sum_cons]; omega
  | trans _ _ h1 h2 => exact h1.trans h2
def rowI (g : Good) (e : Nat × Nat) : List Int := [(e.1 : Int), 0, (e.2 : Int), wantN g e.2]
structure PlanAt (g : Good) (H : Hp) (p : Addr) (es : List (Nat × Nat)) : Prop where
  ex : ∃ rs : List Addr, H p = some (.lst (rs.map V.ref)) ∧ planV g H p rs es
def spCheap (K : PySem.W.Frag) : Sp := fun vs H Q _ => ∃ x ls g, vs = [x] ∧ Th K H x (bakD ⟨ls, none, [g]⟩) ∧ bakB (bakD ⟨ls, none, [g]⟩) = true ∧
  ∀ (H' : Hp) (p : Addr) (es : List (Nat × Nat)), Same H H' → H p = none → PlanAt g H' p es → (∀ row, IsRow g (rowF ls) row ls.length → CheapI g (rowF ls) row ls.length 0 es ∧ ∀ rest, IsRest g (rowF ls) row rest ls.length → (rest ls.length).Perm es) → es.Pairwise (fun a b => TS.code 1000000001 (rowI g a) ≤ TS.code 1000000001 (rowI g b)) → Q (.ref p) H'
def ChpI (v0 v1 v2 v3 v4 v5 v6 v7 : V) (p : Addr) (g : Good) (ls : List Int) (row : Nat → Int) (n : Nat) (H : Hp) (i : Nat) (σ : L2.St) (H' : Hp) : Prop := ∃ (m : Nat) (y10 y11 : Option V) (rs : List Addr) (es : List (Nat × Nat)), σ = [some v0, some v1, some v2, some v3, some v4, some v5, some v6, some v7, some (.ref p), some (.int (m : Int)), y10, y11] ∧ Same H H' ∧ H' p = some (.lst (rs.map V.ref)) ∧ planV g H' p rs es ∧ m + i ≤ n ∧ CheapI g (rowF ls) row n m es ∧ es.length + m ≤ n ∧ ∀ rest, IsRest g (rowF ls) row rest n → es ++ rest m = rest n
theorem CheapI.init (g : Good) (lights row : Nat → Int) (n : Nat) : CheapI g lights row n n [] := by
  refine ⟨⟨?_, fun e he => by cases he⟩, ?_⟩
  · rw [show ((List.range n).filter fun k => decide (n ≤ k ∧ wantN g k ≠ 0)) = [] by
      rw [List.filter_eq_nil_iff]
      intro k hk
      have := List.mem_range.mp hk
      simp only [decide_eq_true_eq]
      omega]
    exact List.Perm.nil
  · have e : litSum lights (fun d => ∃ e ∈ ([] : List (Nat × Nat)), e.1 = d) n = 0 := by
      unfold litSum
      exact sumN_zero n fun k _ => if_neg (by simp)
    rw [e]
    show 0 + 0 + row n ≤ row n
    omega
theorem CheapI.down {g : Good} {lights row : Nat → Int} {n m : Nat} {es : List (Nat × Nat)} (h : CheapI g lights row n (m + 1) es) (hw : wantN g m = 0) (he : row (m + 1) = row m) : CheapI g lights row n m es := by
  refine ⟨⟨?_, h.price⟩, by have := h.cost; rw [he] at this; exact this⟩
  refine h.days.trans ?_
  rw [show ((List.range n).filter fun k => decide (m + 1 ≤ k ∧ wantN g k ≠ 0)) = ((List.range n).filter fun k => decide (m ≤ k ∧ wantN g k ≠ 0)) by
    apply List.filter_congr
    intro k _
    apply decide_eq_decide.mpr
    refine ⟨fun z => ⟨by omega, z.2⟩, fun z => ⟨?_, z.2⟩⟩
    by_cases e : k = m
    · rw [e] at z; exact absurd hw z.2
    · omega]
theorem CheapI.congr {g : Good} {lights row row' : Nat → Int} {n : Nat} {es : List (Nat × Nat)} (h : CheapI g lights row n 0 es) (e0 : row 0 = row' 0) (en : row n = row' n) : CheapI g lights row' n 0 es := ⟨⟨h.days, h.price⟩, by rw [← e0, ← en]; exact h.cost⟩
theorem CheapI.perm {g : Good} {lights row : Nat → Int} {n m : Nat} {es fs : List (Nat × Nat)} (hp : es.Perm fs) (h : CheapI g lights row n m es) : CheapI g lights row n m fs := by
  refine ⟨⟨(hp.map _).symm.trans h.days, fun e he => h.price e (hp.mem_iff.mpr he)⟩, ?_⟩
  have e1 : loavesE g fs = loavesE g es := by
    unfold loavesE
    exact (List.Perm.sum_int (hp.map _)).symm
  have e2 : (fun d => ∃ e ∈ fs, e.1 = d) = (fun d => ∃ e ∈ es, e.1 = d) := by
    funext d
    exact propext ⟨fun ⟨e, he, ed⟩ => ⟨e, hp.mem_iff.mpr he, ed⟩, fun ⟨e, he, ed⟩ => ⟨e, hp.mem_iff.mp he, ed⟩⟩
  have := h.cost
  rw [e1, show litSum lights (fun d => ∃ e ∈ fs, e.1 = d) n = litSum lights (fun d => ∃ e ∈ es, e.1 = d) n by simp only [e2]]
  exact this
theorem planV_app {g : Good} {H : Hp} {D : Addr} {rs qs : List Addr} {es fs : List (Nat × Nat)} (h : planV g H D rs es) (h2 : planV g H D qs fs) : planV g H D (rs ++ qs) (es ++ fs) := by
  unfold planV at *
  induction h with
  | nil => exact h2
  | cons z t ih => exact .cons z ih
theorem planV_mono {g : Good} {H H' : Hp} {D D' : Addr} {rs : List Addr} {es : List (Nat × Nat)} (h : planV g H D rs es) (hm : ∀ r ∈ rs, r ≠ D → ∀ o, H r = some o → r ≠ D' ∧ H' r = some o) : planV g H' D' rs es := by
  unfold planV at *
  induction h with
  | nil => exact .nil
  | cons z t ih => exact .cons (hm _ List.mem_cons_self z.1 _ z.2) (ih fun r hr => hm r (List.mem_cons_of_mem _ hr))
theorem planV_zip {g : Good} {H : Hp} {D : Addr} {rs : List Addr} {es : List (Nat × Nat)} (h : planV g H D rs es) : ∃ zs : List (Addr × (Nat × Nat)), zs.map Prod.fst = rs ∧ zs.map Prod.snd = es ∧ ∀ z ∈ zs, z.1 ≠ D ∧ H z.1 = some (.tup [.int (z.2.1 : Int), .int 0, .int (z.2.2 : Int), .int (wantN g z.2.2)]) := by
  unfold planV at h
  induction h with
  | nil => exact ⟨[], rfl, rfl, fun z hz => by cases hz⟩
  | cons z t ih =>
    rename_i r e rs es
    obtain ⟨zs, h1, h2, h3⟩ := ih
    refine ⟨(r, e) :: zs, by rw [List.map_cons, h1], by rw [List.map_cons, h2], fun y hy => ?_⟩
    rcases List.mem_cons.mp hy with rfl | hy
    · exact z
    · exact h3 y hy
theorem planV_of {g : Good} {H : Hp} {D : Addr} : ∀ zs : List (Addr × (Nat × Nat)), (∀ z ∈ zs, z.1 ≠ D ∧ H z.1 = some (.tup [.int (z.2.1 : Int), .int 0, .int (z.2.2 : Int), .int (wantN g z.2.2)])) → planV g H D (zs.map Prod.fst) (zs.map Prod.snd)
  | [], _ => .nil
  | z :: zs, h => .cons (h z List.mem_cons_self) (planV_of zs fun y hy => h y (List.mem_cons_of_mem _ hy))
theorem and_blk {H : Hp} {pr : Addr} {xs : List V} {A : Prop} [Decidable A] {i j : Int} {u v : Int} {X Y : Prop} (hl : SqL K H pr xs) (h1 : atI xs i = some (.int u)) (h2 : atI xs j = some (.int v)) (hY : ¬ (A ∧ u = v) → Y) (hX : A ∧ u = v → X) :
    if decide A = true then (∃ zs a, SqL K H pr zs ∧ atI zs i = some a ∧ ∃ zs b, SqL K H pr zs ∧ atI zs j = some b ∧ scal a b = true ∧ if decide (a = b) = true then X else Y) else Y := by
  by_cases hA : A
  · rw [if_pos (decide_eq_true hA)]
    refine ⟨xs, _, hl, h1, xs, _, hl, h2, rfl, ?_⟩
    by_cases e : u = v
    · rw [if_pos (decide_eq_true (by rw [e]))]
      exact hX ⟨hA, e⟩
    · rw [if_neg (fun z => e (V.int.inj (of_decide_eq_true z)))]
      exact hY fun z => e z.2
  · rw [if_neg (fun z => hA (of_decide_eq_true z))]
    exact hY fun z => hA z.1
theorem ok_cheapest {f : Addr} {fd : FuncData} (F : Fun K "cheapest" "cheapest" s_cheapest f fd) (B : Bi mg) (Bs : mg "sorted" = none) (D_least_row : Def P w K mg base "least_row" 9 ["bakery"] (spRow K)) (D_wanted_table : Def P w K mg base "wanted_table" 4 ["good"] (spTable K)) (D_is_unwanted : Def P w K mg base "is_unwanted" 1 ["good", "day"] (spUnw K)) (D_last_stretch : Def P w K mg base "last_stretch" 2 ["row", "lights", "table", "many"] (spLstr K)) (D_stretch_rows : Def P w K mg base "stretch_rows" 1 ["days", "baked", "first", "behind"] (spSrows K)) : FnOk P w K mg base CX0 10 f fd ["bakery"] (spCheap K) := by
  refine F.ok sc_cheapest (fun vs H Q E h => ?_) (fun cdv A outer s H vs Q E hr h => ?_)
  · obtain ⟨_, _, _, rfl, _⟩ := h
    rfl
  · obtain ⟨x, ls, g, rfl, hx, hb, q⟩ := h
    refine ⟨_, (pss_cons (ps_set (i := 1) sc_cheapest.nd rfl (Or.inl rfl) (pe_callD D_least_row hr (by rfl) (pa_cons (pv 0) pa_nil)))
 (pss_cons (ps_asg (pv 0) (pg_tup rfl (pgs_cons (pg_name (i := 2) sc_cheapest.nd rfl (Or.inl rfl)) (pgs_cons (pg_name (i := 3) sc_cheapest.nd rfl (Or.inl rfl)) (pgs_cons (pg_name (i := 4) sc_cheapest.nd rfl (Or.inl rfl)) pgs_nil)))))
 (pss_cons (ps_asg (pe_ix ix_list (pv 4) pe_int (fun _ _ => rfl)) (pg_tup rfl (pgs_cons (pg_name (i := 5) sc_cheapest.nd rfl (Or.inl rfl)) (pgs_cons (pg_name (i := 6) sc_cheapest.nd rfl (Or.inl rfl)) pgs_nil))))
 (pss_cons (ps_set (i := 7) sc_cheapest.nd rfl (Or.inl rfl) (pe_callD D_wanted_table hr (by rfl) (pa_cons (pe_ix ix_list (pv 4) pe_int (fun _ _ => rfl)) pa_nil)))
 (pss_cons (ps_set (i := 8) sc_cheapest.nd rfl (Or.inl rfl) (pe_lst pa_nil))
 (pss_cons (ps_set (i := 9) sc_cheapest.nd rfl (Or.inl rfl) (pe_callB call_lnL (by rfl) B.len (by decide +kernel) (pa_cons (pv 2) pa_nil)))
 (pss_cons (ps_while PassesOwn.never (pt_cmpR op_gt (pv 9) pe_int (nomark _)) (pss_one (ps_if (PW.pt (pw_and (pt_val (pe_callD D_is_unwanted hr (by rfl) (pa_cons (pe_ix ix_list (pv 4) pe_int (fun _ _ => rfl)) (pa_cons (pe_op op_sub (pv 9) pe_int) pa_nil)))) (pw_and1 (pt_cmpR op_eq (pe_ix ix_list (pv 1) (pv 9) (fun _ _ => rfl)) (pe_ix ix_list (pv 1) (pe_op op_sub (pv 9) pe_int) (fun _ _ => rfl)) (nomark _))))) (pss_one (ps_aug (i := 9) sc_cheapest.nd rfl (Or.inl rfl) pe_int ip_sub)) (pss_cons (ps_asg (pe_callD D_last_stretch hr (by rfl) (pa_cons (pv 1) (pa_cons (pv 2) (pa_cons (pv 7) (pa_cons (pv 9) pa_nil))))) (pg_tup rfl (pgs_cons (pg_name (i := 10) sc_cheapest.nd rfl (Or.inl rfl)) (pgs_cons (pg_name (i := 11) sc_cheapest.nd rfl (Or.inl rfl)) pgs_nil))))
 (pss_cons (ps_expr (pe_bm PySem.F.plainAttrs_list PySem.F.slot_list_extend PySem.F.type_list_extend mt_extend (pv 8) (pa_cons (pe_callD D_stretch_rows hr (by rfl) (pa_cons (pv 5) (pa_cons (pv 10) (pa_cons (pv 11) (pa_cons (pv 9) pa_nil))))) pa_nil)))
 (pss_one (ps_set (i := 9) sc_cheapest.nd rfl (Or.inl rfl) (pv 11))))))))
 (pss_one (ps_ret (pe_callB (cr_sortT (d := 4) (B := 1000000001) (by decide)) (by rfl) Bs (by decide +kernel) (pa_cons (pv 8) pa_nil))))))))))), ?_⟩
    obtain ⟨⟨c1, c2⟩, c3, _, _, c7⟩ := bak_parts hb
    obtain ⟨c8, c9, hok⟩ := c7 g (List.mem_singleton.mpr rfl)
    dsimp only at c1 c2 c3 c8
    have nn : ∀ b, 0 ≤ rowF ls b := rowF_nonneg fun z hz => by
      have := c3 z hz
      simp only [numD, Bool.and_eq_true, decide_eq_true_eq] at this
      exact this.1
    have hx0 := hx
    obtain ⟨a, l, v2, ga, xl, xg, rfl, ht, hl, hla, h2, hgl, hga⟩ := Th.bak hx
    obtain ⟨vg, hv, hvg⟩ := hga.get' (i := 0) (d := goodD g) rfl
    have hvg0 := hvg
    obtain ⟨tg, ad, xs, rfl, htg, hsg, hag⟩ := hvg.good
    have hxl : xl = ls.map V.int := hla.intsV
    have hln : xl.length = ls.length := by rw [hxl, List.length_map]
    have hxs := hag.length
    rw [List.length_map] at hxs
    walk_at "wp"
    refine ⟨_, ls, g, rfl, hx0, hb, fun H1 pr rr S1 hpr0 hpr hrl hR => ?_⟩
    walk_at "wp"
    refine ⟨_, Same.tup S1 ht, rfl, ?_⟩
    walk_at "wp"
    refine ⟨_, _, S1.seq hgl, atI_nat (j := 0) hv, ?_⟩
    walk_at "wp"
    refine ⟨_, Same.tup S1 htg, rfl, ?_⟩
    walk_at "wp"
    refine ⟨_, _, S1.seq hgl, atI_nat (j := 0) hv, ?_⟩
    refine ⟨_, g, rfl, hvg0.same S1, hok, by omega, fun H2 Dt acc S2 hDt0 hacc hrow => ?_⟩
    obtain ⟨hal, hrow⟩ := hrow
    have S12 := S1.trans S2
    walk_at "wp"
    refine ⟨sz100 (by decide), fun p hp => ?_⟩
    have S3 := same_upd (o := .lst []) hp
    have E3 : upd H2 p (.lst []) p = some (.lst (([] : List Addr).map V.ref)) := upd_same
    generalize upd H2 p (.lst []) = H3 at S3 E3 ⊢
    refine ⟨_, (S12.trans S3).seq hl, ?_⟩
    rw [hln]
    have hp0 : H p = none := S12.free hp
    refine while_by ls.length (ChpI (.ref a) (.ref pr) (.ref l) v2 (.ref ga) (.ref ad) (optV g.life) (.ref Dt) p g ls (rowF rr) ls.length H2) ⟨ls.length, _, _, [], [], rfl, S3, E3, .nil, by omega, CheapI.init _ _ _ _, by rw [List.length_nil]; omega, fun rest _ => List.nil_append _⟩ (fun i σ H4 hi hI => ?_)
    obtain ⟨m, y10, y11, rs, es, rfl, S4, e4, hpl, hmi, hC, hel, hT⟩ := hI
    have T4 := S12.trans S4
    walk_at "wp"
    refine ite2 (fun hm => ?_) (fun hm => ?_)
    · have hm : 0 < m := by have := of_decide_eq_true hm; omega
      obtain ⟨k, rfl⟩ : ∃ k, m = k + 1 := ⟨m - 1, by omega⟩
      have hkn : k < g.days.length := by omega
      have hd : g.days[k]? = some g.days[k] := List.getElem?_eq_getElem hkn
      generalize g.days[k] = d at hd
      have ew : wantN g k = d.want := by unfold wantN; rw [hd]
      refine wstep (by omega) ?_
      walk_at "wp"
      refine ⟨_, _, T4.seq hgl, atI_nat (j := 0) hv, ?_⟩
      rw [show ((k + 1 : Nat) : Int) - 1 = (k : Int) by omega]
      refine ⟨_, g, d, k, rfl, hvg0.same T4, hd, ?_⟩
      have prr := S4 _ _ (S2 _ _ hpr)
      dsimp only
      refine ⟨_, rfl, and_blk (SqL.of prr) (atI_map (v := rowF rr (k + 1)) (by omega) (by rw [Int.toNat_natCast, rowF_nth (by omega)])) (atI_map (v := rowF rr k) (by omega) (by rw [Int.toNat_natCast, rowF_nth (by omega)])) (fun hno => ?_) (fun hyes => ?_)⟩
      · have hch := hR.some k (by omega)
        have hex : ∃ b f s, b < k + 1 ∧ f < k + 1 ∧ segP (wantP g b) f (k + 1 - f) = some s ∧ rowF rr f + rowF ls b + s = rowF rr (k + 1) := by
          rcases hch with ⟨b, f, s, h1, h2, h3, h4⟩ | ⟨⟨d', hd', h1⟩, h2⟩
          · exact ⟨b, f, s, by omega, by omega, h3, h4.symm⟩
          · rw [hd] at hd'
            cases hd'
            exact absurd ⟨h1, h2⟩ hno
        refine ⟨pr, l, Dt, _, xl, acc, rowF rr, rowF ls, g, ls.length, k + 1, rfl, SqL.of prr, T4.seq hl, SqL.of (S4 _ _ hacc), fun j hj => rowF_get (by omega), fun j hj => by rw [hxl]; exact rowF_get (by omega), fun b hb => ?_, by omega, by omega, hex, fun H5 t b f s S5 _ et hb hf hs he hF => ?_⟩
        · obtain ⟨p2, e1, e3⟩ := hrow b (by omega)
          exact ⟨p2, e1, SqL.of (S4 _ _ (by rw [← c8]; exact e3))⟩
        walk_at "wp"
        refine ⟨_, SqT.of et, rfl, ?_⟩
        walk_at "wp"
        have e5 := S5 _ _ e4
        refine ⟨tyL (K := K) (SqL.of e5), ?_⟩
        refine ⟨_, g, b, f, k + 1, rfl, .lst ((T4.trans S5).seq hsg) (hag.same (T4.trans S5)), hok, by omega, by omega, by omega, fun H6 p6 qs S6 hp6 e6 hpl6 hqs => ?_⟩
        have e56 := S6 _ _ e5
        have np : p6 ≠ p := fun z => by rw [z, e5] at hp6; cases hp6
        have hrl2 := hpl.length
        have hql := hpl6.length
        have hsl := strE_len g b f (k + 1)
        walk_at "wp"
        refine ⟨_, _, e56, e6, sz100 (by rw [List.length_map, List.length_map]; omega), f, _, _, rs ++ qs, es ++ strE g b f (k + 1), rfl, same_mut (S4.trans (S5.trans S6)) hp, by rw [upd_same, List.map_append], ?_, by omega, cheap_step nn hC (by omega) hf (by omega) hs he, by rw [List.length_append]; omega, fun rest hr => by rw [← hT rest hr, hr.step k (by omega) (fun z => hno ⟨ew.symm.trans z.1, z.2⟩) b f hF, List.append_assoc]⟩
        refine planV_app (planV_mono hpl fun r hr nr o er => ⟨nr, by rw [upd_ne nr]; exact (S5.trans S6) _ _ er⟩) (planV_mono hpl6 fun r hr nr o er => ?_)
        have nrp : r ≠ p := fun z => by
          have := hqs r hr
          rw [z, e5] at this
          cases this
        exact ⟨nrp, by rw [upd_ne nrp]; exact er⟩
      · refine ⟨k, _, _, rs, es, rfl, S4, e4, hpl, by omega, hC.down (ew.trans hyes.1) hyes.2, by omega, fun rest hr => by rw [← hT rest hr, hr.down k (by omega) (ew.trans hyes.1) hyes.2]⟩
    · have hm0 : m = 0 := by
        by_cases z : 0 < m
        · exact absurd (decide_eq_true (show (0 : Int) < (m : Int) by omega)) hm
        · omega
      subst hm0
      obtain ⟨zs, hz1, hz2, hz3⟩ := planV_zip hpl
      have hzl : zs.length = es.length := by rw [← hz2, List.length_map]
      walk_at "wp"
      refine ⟨_, SqL.of e4, by rw [List.length_map, ← hz1, List.length_map, hzl]; omega, fun x hx => ?_, fun ys p5 hper hsor hp5 => ?_⟩
      · obtain ⟨r, hr, rfl⟩ := List.mem_map.mp hx
        rw [← hz1] at hr
        obtain ⟨z, hz, rfl⟩ := List.mem_map.mp hr
        have hze : z.2 ∈ es := by rw [← hz2]; exact List.mem_map.mpr ⟨z, hz, rfl⟩
        refine ⟨rowI g z.2, ⟨z.1, rfl, SqT.of (hz3 z hz).2⟩, rfl, ?_⟩
        have hb1 := (hC.price _ hze).1
        have hk2 : z.2.2 < ls.length := by
          have : z.2.2 ∈ es.map Prod.snd := List.mem_map.mpr ⟨z.2, hze, rfl⟩
          have := (hC.days.mem_iff.mp this)
          exact List.mem_range.mp (List.mem_filter.mp this).1
        have hw : 0 ≤ wantN g z.2.2 ∧ wantN g z.2.2 ≤ 1000000000 := by
          unfold wantN
          rw [List.getElem?_eq_getElem (show z.2.2 < g.days.length by omega)]
          have := hok _ (List.getElem_mem (show z.2.2 < g.days.length by omega))
          simp only [dayD, dayB, numD, Bool.and_eq_true, decide_eq_true_eq] at this
          exact this.1.1.1
        intro y hy
        simp only [rowI, List.mem_cons, List.not_mem_nil, or_false] at hy
        rcases hy with rfl | rfl | rfl | rfl <;> omega
      · have hper' : ((zs.map fun z => V.ref z.1)).Perm ys := by
          have : rs.map V.ref = zs.map fun z => V.ref z.1 := by rw [← hz1, List.map_map]; rfl
          rw [← this]
          exact hper.symm
        obtain ⟨zs', hp1, hp2⟩ := perm_map_inv hper' zs rfl
        have hz3' : ∀ z ∈ zs', z.1 ≠ p ∧ H4 z.1 = some (.tup [.int (z.2.1 : Int), .int 0, .int (z.2.2 : Int), .int (wantN g z.2.2)]) := fun z hz => hz3 z (hp1.mem_iff.mpr hz)
        have S5 := same_upd (o := .lst ys) hp5
        have n5 : ∀ z ∈ zs', z.1 ≠ p5 := fun z hz e => by
          have := (hz3' z hz).2
          rw [e, hp5] at this
          cases this
        have hperm : es.Perm (zs'.map Prod.snd) := by rw [← hz2]; exact hp1.map _
        refine q _ p5 (zs'.map Prod.snd) (T4.trans S5) (T4.free hp5) ⟨zs'.map Prod.fst, by rw [upd_same, ← hp2, List.map_map]; rfl, planV_of zs' fun z hz => ⟨n5 z hz, S5 _ _ (hz3' z hz).2⟩⟩ (fun row hrow => ?_) ?_
        · have e := hR.ext hrow
          have hC' := hC.congr (row' := row) (e 0 (by omega)) (e ls.length (Nat.le_refl _))
          refine ⟨CheapI.perm hperm hC', fun rest hr => ?_⟩
          have h1 := hT rest (hr.congr fun i hi => (e i hi).symm)
          rw [hr.zero, List.append_nil] at h1
          rw [← h1]
          exact hperm
        · rw [← hp2, List.pairwise_map] at hsor
          rw [List.pairwise_map]
          refine hsor.imp_of_mem fun {x y} hx hy h => h (rowI g x.2) (rowI g y.2) ⟨x.1, rfl, SqT.of (hz3' x hx).2⟩ ⟨y.1, rfl, SqT.of (hz3' y hy).2⟩
end
end Bk

namespace Bk
open PySem PySem.Spec PyProof.Rows L2
local macro_rules | `(tactic| walk_at "wp") => `(tactic| try simp only [rNinr_r, rNeN_r, rCatL_r, rSlT_r, rListOf_r, rIsB_b, rNotB_b, tFmtO, tJs, tOst, tCallS, WE, tRaise2, rOne_i, rSorD_r, tDNewK, Int.zero_add, tNever, tFor_eq, tLc_eq, iList, iTup, iRng1_eq, rRng1_i, iRng2_eq, rRng2_i, iEnum_eq, rEnum_r, iZip_eq, rZip_r, tSl, tPart, tNoPart, rSlL_r, rCat_r, rIn_r, rNin_r, rRepr_r, iRevR, rMin_r, rShr_i, rOdd_i, rSetL_r, gSub, rRg1_i, rRg2_i, rInr_r, tAug, ipI_ii, tLstRg, tRg1, tRg2, gTup_r, gUnl_r, rInt1_b, rInt1_i, rRep_r, tStep_r, scal, tSeq, tNext, tAsg, tRet, tRetN, tIfS, tDrop, tCB, tCons, tNil, tVar, tOp, tUn, tC, rU_i, rI_ii, rI0_ii, rEq, rNe, tTest, tB, tAnd, tOr, tNot, tAndV, tOrV, tNotV, tIf, tChain, tLst, tTup, tBM, tBM0, rAppend_r, rIxL_r, rIxT_r, rMx_ii, rMn_ii, rLnL_r, rLnT_r, rIsD_int, rIsD_bool, rIsD_list, rIsD_tuple, tCall, gName, gNil_n, gCons_c, cxK, L2.start, List.map, List.replicate, List.length_cons, List.length_nil, List.cons_append, List.nil_append, List.append_nil, List.getElem?_cons_zero, List.getElem?_cons_succ, Option.some.injEq, exists_eq_left', exists_eq_left, V.int.injEq, V.bl.injEq, V.str.injEq, V.ref.injEq, List.cons.injEq, and_true, true_and, and_self, List.set, wipe, rAll_r, rSum_r, reduceCtorEq, decide_true, decide_false, reduceIte, ite_true, ite_false, if_true, if_false, Bool.false_eq_true, Bool.not_true, Bool.not_false])
local macro_rules | `(tactic| walk_at "shaped") => `(tactic| (simp only [SeqAt.shaped, PyData.canLay0, PyData.canLayAll0, PyData.depth, PyData.depthAll]; rfl))
local macro_rules | `(tactic| walk_at "lay") => `(tactic| (simp only [PyData.canLay0, PyData.canLayAll0]; rfl))
section
variable {P : Program} {w : World} {K : PySem.W.Frag} {mg : Str → Option Value} {base : Heap}
theorem th_of_day {K : PySem.W.Frag} {H : Hp} {t : Addr} {d : Day} (h : SqT K H t [.int d.want, .int d.loaf, .int d.keep, optV d.fine]) : Th K H (.ref t) (dayD d) := .tup h (.cons (.int _) (.cons (.int _) (.cons (.int _) (.cons (Th.optV _) .nil))))
theorem thAll_days {K : PySem.W.Frag} {H : Hp} : ∀ {acc : List V} {ds : List Day}, acc.length = ds.length → (∀ (k : Nat) (d : Day), ds[k]? = some d → ∃ t, acc[k]? = some (.ref t) ∧ SqT K H t [.int d.want, .int d.loaf, .int d.keep, optV d.fine]) → ThAll K H acc (ds.map dayD)
  | [], [], _, _ => .nil
  | [], _ :: _, h, _ => by cases h
  | _ :: _, [], h, _ => by cases h
  | v :: r, d :: ds, h, a => by
    obtain ⟨t, e, ht⟩ := a 0 d rfl
    cases e
    exact .cons (th_of_day ht) (thAll_days (by simpa using h) fun k c hc => a (k + 1) c hc)
structure Founds (p : Addr) (H : Hp) (acc : List V) (ds : List Day) : Prop where
  at_ : H p = some (.lst acc)
  len : acc.length = ds.length
  all : ∀ (k : Nat) (d : Day), ds[k]? = some d → ∃ t, acc[k]? = some (.ref t) ∧ t ≠ p ∧ H t = some (.tup [.int d.want, .int d.loaf, .int d.keep, optV d.fine])
theorem Founds.th {p : Addr} {H : Hp} {acc : List V} {ds : List Day} (h : Founds p H acc ds) (K : PySem.W.Frag) : ThAll K H acc (ds.map dayD) := thAll_days h.len fun k d hd => by
  obtain ⟨t, e1, _, e2⟩ := h.all k d hd
  exact ⟨t, e1, SqT.of e2⟩
theorem Founds.snoc {p t : Addr} {H : Hp} {acc : List V} {ds : List Day} {d : Day} (h : Founds p H acc ds) (ht : H t = none) : Founds p (upd (upd H t (.tup [.int d.want, .int d.loaf, .int d.keep, optV d.fine])) p (.lst (acc ++ [.ref t]))) (acc ++ [.ref t]) (ds ++ [d]) := by
  have hpt : t ≠ p := fun z => by rw [z, h.at_] at ht; cases ht
  refine ⟨upd_same, by rw [List.length_append, List.length_append, h.len]; rfl, fun k c hc => ?_⟩
  by_cases hk : k < ds.length
  · rw [List.getElem?_append_left hk] at hc
    obtain ⟨t', e1, e2, e3⟩ := h.all k c hc
    refine ⟨t', by rw [List.getElem?_append_left (by rw [h.len]; exact hk)]; exact e1, e2, ?_⟩
    rw [upd_ne e2, upd_ne (fun z => by rw [z, ht] at e3; cases e3)]
    exact e3
  · rw [List.getElem?_append_right (by omega)] at hc
    have : k - ds.length < 1 := (List.getElem?_eq_some_iff.mp hc).1
    rw [show k - ds.length = 0 by omega] at hc
    cases hc
    refine ⟨t, by rw [List.getElem?_append_right (by rw [h.len]; omega), h.len, show k - ds.length = 0 by omega]; rfl, hpt, ?_⟩
    rw [upd_ne hpt, upd_same]
theorem Founds.same {p : Addr} {H H' : Hp} {acc : List V} {ds : List Day} (h : Founds p H acc ds) (S : Same H H') : Founds p H' acc ds := ⟨S _ _ h.at_, h.len, fun k d hd => by
  obtain ⟨t, e1, e2, e3⟩ := h.all k d hd
  exact ⟨t, e1, e2, S _ _ e3⟩⟩
abbrev s_turned : Stmt := top 70
theorem sc_turned : FnScope ["_law_bakery_here", "_law_times", "_law_more", "_law_lights", "_law_bound", "_law_goods", "_law_days_here", "_law_life", "_law_found", "_law_want", "_law_loaf", "_law_keep", "_law_fine", "_law_late", "_law_light"] ["_law_bakery_here", "_law_times", "_law_more"] (defScope s_turned) := ⟨rfl, rfl, rfl, by decide +kernel, rfl, by decide +kernel, by decide +kernel⟩
theorem days_nums {d : Day} (h : dayB (dayD d) = true) : (0 ≤ d.want ∧ d.want ≤ 1000000000) ∧ (0 ≤ d.loaf ∧ d.loaf ≤ 1000000000) ∧ (0 ≤ d.keep ∧ d.keep ≤ 1000000000) ∧ ∀ z, d.fine = some z → 0 ≤ z ∧ z ≤ 1000000000 := by
  simp only [dayD, dayB, Bool.and_eq_true] at h
  obtain ⟨⟨⟨n1, n2⟩, n3⟩, n4⟩ := h
  simp only [numD, Bool.and_eq_true, decide_eq_true_eq] at n1 n2 n3
  refine ⟨n1, n2, n3, fun z e => ?_⟩
  rw [e] at n4
  simp only [optD, noneB, Bool.false_or, numD, Bool.and_eq_true, decide_eq_true_eq] at n4
  exact n4
def spTurned (K : PySem.W.Frag) : Sp := fun vs H Q _ => ∃ x ls g, ∃ t m : Int, vs = [x, .int t, .int m] ∧ Th K H x (bakD ⟨ls, none, [g]⟩) ∧ bakB (bakD ⟨ls, none, [g]⟩) = true ∧ 0 ≤ t ∧ t ≤ 1000000000 ∧ ∀ H' y, Same H H' → Th K H' y (bakD ⟨ls.map (· * t), none, [mulG t m g]⟩) → Q y H'
def TuI (v0 v1 v2 v3 v4 v5 v6 v7 : V) (p : Addr) (ds : List Day) (t m : Int) (H : Hp) (i : Nat) (σ : L2.St) (H' : Hp) : Prop := (∃ y9 y10 y11 y12 y13, σ = [some v0, some v1, some v2, some v3, some v4, some v5, some v6, some v7, some (.ref p), y9, y10, y11, y12, y13, none]) ∧ Same H H' ∧ ∃ acc, Founds p H' acc ((ds.take i).map (mulD t m))
theorem ok_turned {f : Addr} {fd : FuncData} (F : Fun K "_law_turned" "_law_turned" s_turned f fd) : FnOk P w K mg base CX0 1 f fd ["_law_bakery_here", "_law_times", "_law_more"] (spTurned K) := by
  refine F.ok sc_turned (fun vs H Q E h => ?_) (fun cdv A outer s H vs Q E hr h => ?_)
  · obtain ⟨_, _, _, _, _, rfl, _⟩ := h
    rfl
  · obtain ⟨x, ls, g, t, m, rfl, hx, hb, ht0, ht1, q⟩ := h
    refine ⟨_, (pss_cons (ps_asg (pv 0) (pg_tup rfl (pgs_cons (pg_name (i := 3) sc_turned.nd rfl (Or.inl rfl)) (pgs_cons (pg_name (i := 4) sc_turned.nd rfl (Or.inl rfl)) (pgs_cons (pg_name (i := 5) sc_turned.nd rfl (Or.inl rfl)) pgs_nil)))))
 (pss_cons (ps_asg (pe_ix ix_list (pv 5) pe_int (fun _ _ => rfl)) (pg_tup rfl (pgs_cons (pg_name (i := 6) sc_turned.nd rfl (Or.inl rfl)) (pgs_cons (pg_name (i := 7) sc_turned.nd rfl (Or.inl rfl)) pgs_nil))))
 (pss_cons (ps_set (i := 8) sc_turned.nd rfl (Or.inl rfl) (pe_lst pa_nil))
 (pss_cons (ps_for PassesOwn.never rfl (pi_list (pv 6)) (pg_tup rfl (pgs_cons (pg_name (i := 9) sc_turned.nd rfl (Or.inl rfl)) (pgs_cons (pg_name (i := 10) sc_turned.nd rfl (Or.inl rfl)) (pgs_cons (pg_name (i := 11) sc_turned.nd rfl (Or.inl rfl)) (pgs_cons (pg_name (i := 12) sc_turned.nd rfl (Or.inl rfl)) pgs_nil))))) (pss_cons (ps_set (i := 13) sc_turned.nd rfl (Or.inl rfl) (pe_ifExp (pt_cmpR op_isN (pv 12) pe_non (nomark _)) pe_non (pe_op op_mul (pv 12) (pv 1))))
 (pss_one (ps_expr (pe_bm PySem.F.plainAttrs_list PySem.F.slot_list_append PySem.F.type_list_append mt_append (pv 8) (pa_cons (pe_tup (pa_cons (pv 9) (pa_cons (pe_op op_add (pe_op op_mul (pv 10) (pv 1)) (pv 2)) (pa_cons (pe_op op_mul (pv 11) (pv 1)) (pa_cons (pv 13) pa_nil))))) pa_nil))))))
 (pss_one (ps_ret (pe_tup (pa_cons (pe_lc (own := [("_law_light", 14)]) (g := (gName 14)) rfl sc_turned.nd (pi_list (pv 3)) (blkOk_by (own := [("_law_light", 14)]) (N := ["_law_bakery_here", "_law_times", "_law_more", "_law_lights", "_law_bound", "_law_goods", "_law_days_here", "_law_life", "_law_found", "_law_want", "_law_loaf", "_law_keep", "_law_fine", "_law_late", "_law_light"]) (sc := defScope s_turned) (by decide +kernel)) (fun _ _ _ _ _ => (pg_name (i := 14) sc_turned.nd rfl (Or.inl rfl))) (fun _ _ _ _ _ => pts_nil) (fun _ _ _ _ _ => (pe_op op_mul (pv 14) (pv 1)))) (pa_cons (pv 4) (pa_cons (pe_lst (pa_cons (pe_tup (pa_cons (pv 8) (pa_cons (pv 7) pa_nil))) pa_nil)) pa_nil)))))))))), ?_⟩
    obtain ⟨⟨c1, c2⟩, c3, _, _, c7⟩ := bak_parts hb
    obtain ⟨c8, c9, hok⟩ := c7 g (List.mem_singleton.mpr rfl)
    dsimp only at c1 c2 c3 c8
    obtain ⟨a, l, v2, ga, xl, xg, rfl, ht, hl, hla, h2, hgl, hga⟩ := Th.bak hx
    have e2 := h2.opt
    subst e2
    obtain ⟨vg, hv, hvg⟩ := hga.get' (i := 0) (d := goodD g) rfl
    obtain ⟨tg, ad, xs, rfl, htg, hsg, hag⟩ := hvg.good
    have hxl : xl = ls.map V.int := hla.intsV
    have hxs := hag.length
    rw [List.length_map] at hxs
    walk_at "wp"
    refine ⟨_, ht, rfl, ?_⟩
    walk_at "wp"
    refine ⟨_, _, hgl, atI_nat (j := 0) hv, ?_⟩
    walk_at "wp"
    refine ⟨_, htg, rfl, ?_⟩
    walk_at "wp"
    refine ⟨sz100 (by decide), fun pf hpf => ?_⟩
    have S3 := same_upd (o := .lst []) hpf
    have E3 : upd H pf (.lst []) pf = some (.lst []) := upd_same
    generalize upd H pf (.lst []) = H3 at S3 E3 ⊢
    refine ⟨⟨_, S3.seq hsg⟩, LoopR.by (walk_list (xs := xs)) (TuI (.ref a) (.int t) (.int m) (.ref l) (optV none) (.ref ga) (.ref ad) (optV g.life) pf g.days t m H) ⟨⟨_, _, _, _, _, rfl⟩, S3, [], E3, rfl, fun k d e => (by cases e)⟩ (fun i σ H' _ hI => hI.2.1.seq hsg) (fun i v σ H0 H4 hi hI hY => ?_) (fun σ H4 hI => ?_)⟩
    · obtain ⟨rfl, hxi⟩ := hY
      obtain ⟨⟨y9, y10, y11, y12, y13, rfl⟩, S4, acc, hF⟩ := hI
      have hd : g.days[i]? = some g.days[i] := List.getElem?_eq_getElem (by omega)
      have hdk := hok _ (List.getElem_mem (show i < g.days.length by omega))
      generalize g.days[i] = d at hd hdk
      obtain ⟨b1, b2, b3, b4⟩ := days_nums hdk
      obtain ⟨vd, hvd, hvdd⟩ := hag.get' (i := i) (d := dayD d) (by rw [List.getElem?_map, hd]; rfl)
      rw [hxi] at hvd
      cases hvd
      obtain ⟨td, rfl, htd⟩ := hvdd.day
      have htk : g.days.take (i + 1) = g.days.take i ++ [d] := by rw [List.take_add_one, hd]; rfl
      have hal := hF.len
      rw [List.length_map, List.length_take] at hal
      have hlen : acc.length < sizeLine := sz100l (by omega)
      have fin : ∀ (y9 y10 y11 y12 y13 : Option V) (tn : Addr), H4 tn = none → ∃ xs, upd H4 tn (.tup [.int d.want, .int (d.loaf * t + m), .int (d.keep * t), optV (d.fine.map (· * t))]) pf = some (.lst xs) ∧ xs.length < sizeLine ∧ TuI (.ref a) (.int t) (.int m) (.ref l) (optV none) (.ref ga) (.ref ad) (optV g.life) pf g.days t m H (i + 1) [some (.ref a), some (.int t), some (.int m), some (.ref l), some (optV none), some (.ref ga), some (.ref ad), some (optV g.life), some (.ref pf), y9, y10, y11, y12, y13, none] (upd (upd H4 tn (.tup [.int d.want, .int (d.loaf * t + m), .int (d.keep * t), optV (d.fine.map (· * t))])) pf (.lst (xs ++ [.ref tn]))) := fun y9 y10 y11 y12 y13 tn hn => by
        have hs := hF.snoc (d := mulD t m d) hn
        refine ⟨acc, (same_upd hn) _ _ hF.at_, hlen, ⟨_, _, _, _, _, rfl⟩, same_mut (S4.trans (same_upd hn)) hpf, acc ++ [.ref tn], ?_⟩
        rw [htk, List.map_append]
        exact hs
      walk_at "wp"
      refine ⟨_, Same.tup S4 htd, rfl, ?_⟩
      walk_at "wp"
      cases hf : d.fine with
      | none =>
        rw [hf] at fin
        simp only [optV]
        walk_at "wp"
        refine ⟨tyL (SqL.of hF.at_), .inl ⟨by omega, by omega⟩, .inl ⟨by omega, by omega⟩, sz100 (by decide), fun tn hn => ?_⟩
        exact fin _ _ _ _ _ tn hn
      | some z =>
        have bz := b4 z hf
        rw [hf] at fin
        simp only [optV]
        walk_at "wp"
        refine ⟨.inl ⟨by omega, by omega⟩, tyL (SqL.of hF.at_), .inl ⟨by omega, by omega⟩, .inl ⟨by omega, by omega⟩, sz100 (by decide), fun tn hn => ?_⟩
        exact fin _ _ _ _ _ tn hn
    · obtain ⟨⟨y9, y10, y11, y12, y13, rfl⟩, S4, acc, hF⟩ := hI
      rw [hxs, List.take_length] at hF
      walk_at "wp"
      refine ⟨⟨_, S4.seq hl⟩, fun D hD => ?_⟩
      rw [hxl] at hl
      refine LcR.map (walk_list (xs := ls.map V.int)) ((ls.map (· * t)).map V.int) hD (by rw [List.length_map, List.length_map, List.length_map]) (by rw [List.length_map]; omega) (fun H' s => (S4.trans s).seq hl) (fun _ _ _ _ y => yat_same y) (fun k v y H0 H5 hk s5 yy hy R hR => ?_) (fun H5 s5 hH5 => ?_)
      · obtain ⟨rfl, hxk⟩ := yy
        rw [List.length_map] at hk
        have hz : ls[k]? = some ls[k] := List.getElem?_eq_getElem hk
        have hzb := c3 _ (List.getElem_mem hk)
        generalize ls[k] = z at hz hzb
        rw [List.getElem?_map, hz] at hxk
        cases hxk
        rw [List.getElem?_map, List.getElem?_map, hz] at hy
        cases hy
        simp only [numD, Bool.and_eq_true, decide_eq_true_eq] at hzb
        walk_at "wp"
        exact ⟨.inl ⟨by omega, by omega⟩, hR _ (Same.refl _)⟩
      · have hF5 := hF.same s5
        walk_at "wp"
        refine ⟨sz100 (by decide), fun t1 g1 => ⟨sz100 (by decide), fun t2 g2 => ⟨sz100 (by decide), fun t3 g3 => ?_⟩⟩⟩
        have S6 := same_upd (o := .tup [V.ref pf, optV g.life]) g1
        have S7 := same_upd (o := .lst [V.ref t1]) g2
        have S8 := same_upd (o := .tup [V.ref D, optV none, V.ref t2]) g3
        have S58 := S6.trans (S7.trans S8)
        refine q _ _ (S4.trans (s5.trans S58)) ?_
        refine .tup (SqT.of upd_same) (.cons (.lst (SqL.of (S58 _ _ hH5)) (.ints _)) (.cons (Th.optV none) (.cons (.lst (SqL.of (S8 _ _ upd_same)) (.cons ?_ .nil)) .nil)))
        exact .tup (SqT.of ((S7.trans S8) _ _ upd_same)) (.cons (.lst (SqL.of (S58 _ _ hF5.at_)) ((hF5.th K).same S58)) (.cons (Th.optV _) .nil))
abbrev s_small : Stmt := top 71
theorem sc_small : FnScope ["_law_bakery_here", "_law_lights", "_law_bound", "_law_goods", "_law_found", "_law_want", "_law_loaf", "_law_keep", "_law_fine", "_law_late", "_law_light"] ["_law_bakery_here"] (defScope s_small) := ⟨rfl, rfl, rfl, by decide +kernel, rfl, by decide +kernel, by decide +kernel⟩
def smallD (d : Day) : Day := ⟨d.want, d.loaf % 9, d.keep % 5, d.fine.map (· % 7)⟩
def smallG (g : Good) : Good := ⟨g.days.map smallD, g.life⟩
def spSmall (K : PySem.W.Frag) : Sp := fun vs H Q _ => ∃ x ls g, vs = [x] ∧ Th K H x (bakD ⟨ls, none, [g]⟩) ∧ bakB (bakD ⟨ls, none, [g]⟩) = true ∧ ∀ H' y, Same H H' → Th K H' y (bakD ⟨ls.map (· % 11), none, [smallG g]⟩) → Q y H'
def SmI (v0 v1 v2 v3 : V) (p : Addr) (ds : List Day) (H : Hp) (i : Nat) (σ : L2.St) (H' : Hp) : Prop := (∃ y5 y6 y7 y8 y9, σ = [some v0, some v1, some v2, some v3, some (.ref p), y5, y6, y7, y8, y9, none]) ∧ Same H H' ∧ ∃ acc, Founds p H' acc ((ds.take i).map smallD)
theorem ok_small {f : Addr} {fd : FuncData} (F : Fun K "_law_small" "_law_small" s_small f fd) : FnOk P w K mg base CX0 1 f fd ["_law_bakery_here"] (spSmall K) := by
  refine F.ok sc_small (fun vs H Q E h => ?_) (fun cdv A outer s H vs Q E hr h => ?_)
  · obtain ⟨_, _, _, rfl, _⟩ := h
    rfl
  · obtain ⟨x, ls, g, rfl, hx, hb, q⟩ := h
    refine ⟨_, (pss_cons (ps_asg (pv 0) (pg_tup rfl (pgs_cons (pg_name (i := 1) sc_small.nd rfl (Or.inl rfl)) (pgs_cons (pg_name (i := 2) sc_small.nd rfl (Or.inl rfl)) (pgs_cons (pg_name (i := 3) sc_small.nd rfl (Or.inl rfl)) pgs_nil)))))
 (pss_cons (ps_set (i := 4) sc_small.nd rfl (Or.inl rfl) (pe_lst pa_nil))
 (pss_cons (ps_for PassesOwn.never rfl (pi_list (pe_ix ix_tup (pe_ix ix_list (pv 3) pe_int (fun _ _ => rfl)) pe_int (fun _ _ => rfl))) (pg_tup rfl (pgs_cons (pg_name (i := 5) sc_small.nd rfl (Or.inl rfl)) (pgs_cons (pg_name (i := 6) sc_small.nd rfl (Or.inl rfl)) (pgs_cons (pg_name (i := 7) sc_small.nd rfl (Or.inl rfl)) (pgs_cons (pg_name (i := 8) sc_small.nd rfl (Or.inl rfl)) pgs_nil))))) (pss_cons (ps_set (i := 9) sc_small.nd rfl (Or.inl rfl) (pe_ifExp (pt_cmpR op_isN (pv 8) pe_non (nomark _)) pe_non (pe_op op_mod (pv 8) pe_int)))
 (pss_one (ps_expr (pe_bm PySem.F.plainAttrs_list PySem.F.slot_list_append PySem.F.type_list_append mt_append (pv 4) (pa_cons (pe_tup (pa_cons (pv 5) (pa_cons (pe_op op_mod (pv 6) pe_int) (pa_cons (pe_op op_mod (pv 7) pe_int) (pa_cons (pv 9) pa_nil))))) pa_nil))))))
 (pss_one (ps_ret (pe_tup (pa_cons (pe_lc (own := [("_law_light", 10)]) (g := (gName 10)) rfl sc_small.nd (pi_list (pv 1)) (blkOk_by (own := [("_law_light", 10)]) (N := ["_law_bakery_here", "_law_lights", "_law_bound", "_law_goods", "_law_found", "_law_want", "_law_loaf", "_law_keep", "_law_fine", "_law_late", "_law_light"]) (sc := defScope s_small) (by decide +kernel)) (fun _ _ _ _ _ => (pg_name (i := 10) sc_small.nd rfl (Or.inl rfl))) (fun _ _ _ _ _ => pts_nil) (fun _ _ _ _ _ => (pe_op op_mod (pv 10) pe_int))) (pa_cons (pv 2) (pa_cons (pe_lst (pa_cons (pe_tup (pa_cons (pv 4) (pa_cons (pe_ix ix_tup (pe_ix ix_list (pv 3) pe_int (fun _ _ => rfl)) pe_int (fun _ _ => rfl)) pa_nil))) pa_nil)) pa_nil))))))))), ?_⟩
    obtain ⟨⟨c1, c2⟩, c3, _, _, c7⟩ := bak_parts hb
    obtain ⟨c8, c9, hok⟩ := c7 g (List.mem_singleton.mpr rfl)
    dsimp only at c1 c2 c3 c8
    obtain ⟨a, l, v2, ga, xl, xg, rfl, ht, hl, hla, h2, hgl, hga⟩ := Th.bak hx
    have e2 := h2.opt
    subst e2
    obtain ⟨vg, hv, hvg⟩ := hga.get' (i := 0) (d := goodD g) rfl
    obtain ⟨tg, ad, xs, rfl, htg, hsg, hag⟩ := hvg.good
    have hxl : xl = ls.map V.int := hla.intsV
    have hxs := hag.length
    rw [List.length_map] at hxs
    walk_at "wp"
    refine ⟨_, ht, rfl, ?_⟩
    walk_at "wp"
    refine ⟨sz100 (by decide), fun pf hpf => ?_⟩
    have S3 := same_upd (o := .lst []) hpf
    have E3 : upd H pf (.lst []) pf = some (.lst []) := upd_same
    generalize upd H pf (.lst []) = H3 at S3 E3 ⊢
    refine ⟨_, _, S3.seq hgl, atI_nat (j := 0) hv, ?_⟩
    walk_at "wp"
    refine ⟨_, _, Same.tup S3 htg, atI_nat (j := 0) rfl, ?_⟩
    walk_at "wp"
    refine ⟨⟨_, S3.seq hsg⟩, LoopR.by (walk_list (xs := xs)) (SmI (.ref a) (.ref l) (optV none) (.ref ga) pf g.days H) ⟨⟨_, _, _, _, _, rfl⟩, S3, [], E3, rfl, fun k d e => (by cases e)⟩ (fun i σ H' _ hI => hI.2.1.seq hsg) (fun i v σ H0 H4 hi hI hY => ?_) (fun σ H4 hI => ?_)⟩
    · obtain ⟨rfl, hxi⟩ := hY
      obtain ⟨⟨y5, y6, y7, y8, y9, rfl⟩, S4, acc, hF⟩ := hI
      have hd : g.days[i]? = some g.days[i] := List.getElem?_eq_getElem (by omega)
      generalize g.days[i] = d at hd
      obtain ⟨vd, hvd, hvdd⟩ := hag.get' (i := i) (d := dayD d) (by rw [List.getElem?_map, hd]; rfl)
      rw [hxi] at hvd
      cases hvd
      obtain ⟨td, rfl, htd⟩ := hvdd.day
      have htk : g.days.take (i + 1) = g.days.take i ++ [d] := by rw [List.take_add_one, hd]; rfl
      have hal := hF.len
      rw [List.length_map, List.length_take] at hal
      have hlen : acc.length < sizeLine := sz100l (by omega)
      have fin : ∀ (y5 y6 y7 y8 y9 : Option V) (tn : Addr), H4 tn = none → ∃ xs, upd H4 tn (.tup [.int d.want, .int (d.loaf % 9), .int (d.keep % 5), optV (d.fine.map (· % 7))]) pf = some (.lst xs) ∧ xs.length < sizeLine ∧ SmI (.ref a) (.ref l) (optV none) (.ref ga) pf g.days H (i + 1) [some (.ref a), some (.ref l), some (optV none), some (.ref ga), some (.ref pf), y5, y6, y7, y8, y9, none] (upd (upd H4 tn (.tup [.int d.want, .int (d.loaf % 9), .int (d.keep % 5), optV (d.fine.map (· % 7))])) pf (.lst (xs ++ [.ref tn]))) := fun y5 y6 y7 y8 y9 tn hn => by
        have hs := hF.snoc (d := smallD d) hn
        refine ⟨acc, (same_upd hn) _ _ hF.at_, hlen, ⟨_, _, _, _, _, rfl⟩, same_mut (S4.trans (same_upd hn)) hpf, acc ++ [.ref tn], ?_⟩
        rw [htk, List.map_append]
        exact hs
      walk_at "wp"
      refine ⟨_, Same.tup S4 htd, rfl, ?_⟩
      walk_at "wp"
      cases hf : d.fine with
      | none =>
        rw [hf] at fin
        simp only [optV]
        walk_at "wp"
        refine ⟨tyL (SqL.of hF.at_), by decide, by decide, sz100 (by decide), fun tn hn => ?_⟩
        exact fin _ _ _ _ _ tn hn
      | some z =>
        rw [hf] at fin
        simp only [optV]
        walk_at "wp"
        refine ⟨by decide, tyL (SqL.of hF.at_), by decide, by decide, sz100 (by decide), fun tn hn => ?_⟩
        exact fin _ _ _ _ _ tn hn
    · obtain ⟨⟨y5, y6, y7, y8, y9, rfl⟩, S4, acc, hF⟩ := hI
      rw [hxs, List.take_length] at hF
      walk_at "wp"
      refine ⟨⟨_, S4.seq hl⟩, fun D hD => ?_⟩
      rw [hxl] at hl
      refine LcR.map (walk_list (xs := ls.map V.int)) ((ls.map (· % 11)).map V.int) hD (by rw [List.length_map, List.length_map, List.length_map]) (by rw [List.length_map]; omega) (fun H' s => (S4.trans s).seq hl) (fun _ _ _ _ y => yat_same y) (fun k v y H0 H5 hk s5 yy hy R hR => ?_) (fun H5 s5 hH5 => ?_)
      · obtain ⟨rfl, hxk⟩ := yy
        rw [List.length_map] at hk
        have hz : ls[k]? = some ls[k] := List.getElem?_eq_getElem hk
        generalize ls[k] = z at hz
        rw [List.getElem?_map, hz] at hxk
        cases hxk
        rw [List.getElem?_map, List.getElem?_map, hz] at hy
        cases hy
        walk_at "wp"
        exact ⟨by decide, hR _ (Same.refl _)⟩
      · have hF5 := hF.same s5
        have S45 := S4.trans s5
        walk_at "wp"
        refine ⟨_, _, S45.seq hgl, atI_nat (j := 0) hv, ?_⟩
        walk_at "wp"
        refine ⟨_, _, Same.tup S45 htg, atI_nat (j := 1) rfl, ?_⟩
        refine ⟨sz100 (by decide), fun t1 g1 => ⟨sz100 (by decide), fun t2 g2 => ⟨sz100 (by decide), fun t3 g3 => ?_⟩⟩⟩
        have S6 := same_upd (o := .tup [V.ref pf, optV g.life]) g1
        have S7 := same_upd (o := .lst [V.ref t1]) g2
        have S8 := same_upd (o := .tup [V.ref D, optV none, V.ref t2]) g3
        have S58 := S6.trans (S7.trans S8)
        refine q _ _ (S4.trans (s5.trans S58)) ?_
        refine .tup (SqT.of upd_same) (.cons (.lst (SqL.of (S58 _ _ hH5)) (.ints _)) (.cons (Th.optV none) (.cons (.lst (SqL.of (S8 _ _ upd_same)) (.cons ?_ .nil)) .nil)))
        exact .tup (SqT.of ((S7.trans S8) _ _ upd_same)) (.cons (.lst (SqL.of (S58 _ _ hF5.at_)) ((hF5.th K).same S58)) (.cons (Th.optV _) .nil))
abbrev s_ahead : Stmt := top 72
theorem sc_ahead : FnScope ["_law_bakery_here", "_law_digits", "_law_lights", "_law_bound", "_law_goods", "_law_days_here", "_law_life", "_law_first"] ["_law_bakery_here", "_law_digits"] (defScope s_ahead) := ⟨rfl, rfl, rfl, by decide +kernel, rfl, by decide +kernel, by decide +kernel⟩
def firstD (g : Good) (x k : Int) : Day := ⟨0, (g.days.headD ⟨0, 0, 0, none⟩).loaf + x, k, none⟩
def spAhead (K : PySem.W.Frag) : Sp := fun vs H Q _ => ∃ x ls g, ∃ (pd : Addr) (d0 d1 d2 : Int), vs = [x, .ref pd] ∧ Th K H x (bakD ⟨ls, none, [g]⟩) ∧ bakB (bakD ⟨ls, none, [g]⟩) = true ∧ SqL K H pd [.int d0, .int d1, .int d2] ∧ ∀ H' y, Same H H' → Th K H' y (bakD ⟨(rowF ls 0 + d2) :: ls, none, [aheadG (firstD g d0 d1) g]⟩) → Q y H'
theorem ok_ahead {f : Addr} {fd : FuncData} (F : Fun K "_law_ahead" "_law_ahead" s_ahead f fd) : FnOk P w K mg base CX0 1 f fd ["_law_bakery_here", "_law_digits"] (spAhead K) := by
  refine F.ok sc_ahead (fun vs H Q E h => ?_) (fun cdv A outer s H vs Q E hr h => ?_)
  · obtain ⟨_, _, _, _, _, _, _, rfl, _⟩ := h
    rfl
  · obtain ⟨x, ls, g, pd, d0, d1, d2, rfl, hx, hb, hpd, q⟩ := h
    refine ⟨_, (pss_cons (ps_asg (pv 0) (pg_tup rfl (pgs_cons (pg_name (i := 2) sc_ahead.nd rfl (Or.inl rfl)) (pgs_cons (pg_name (i := 3) sc_ahead.nd rfl (Or.inl rfl)) (pgs_cons (pg_name (i := 4) sc_ahead.nd rfl (Or.inl rfl)) pgs_nil)))))
 (pss_cons (ps_asg (pe_ix ix_list (pv 4) pe_int (fun _ _ => rfl)) (pg_tup rfl (pgs_cons (pg_name (i := 5) sc_ahead.nd rfl (Or.inl rfl)) (pgs_cons (pg_name (i := 6) sc_ahead.nd rfl (Or.inl rfl)) pgs_nil))))
 (pss_cons (ps_set (i := 7) sc_ahead.nd rfl (Or.inl rfl) (pe_tup (pa_cons pe_int (pa_cons (pe_op op_add (pe_ix ix_tup (pe_ix ix_list (pv 5) pe_int (fun _ _ => rfl)) pe_int (fun _ _ => rfl)) (pe_ix ix_list (pv 1) pe_int (fun _ _ => rfl))) (pa_cons (pe_ix ix_list (pv 1) pe_int (fun _ _ => rfl)) (pa_cons pe_non pa_nil))))))
 (pss_one (ps_ret (pe_tup (pa_cons (pe_op op_catL (pe_lst (pa_cons (pe_op op_add (pe_ix ix_list (pv 2) pe_int (fun _ _ => rfl)) (pe_ix ix_list (pv 1) pe_int (fun _ _ => rfl))) pa_nil)) (pv 2)) (pa_cons (pv 3) (pa_cons (pe_lst (pa_cons (pe_tup (pa_cons (pe_op op_catL (pe_lst (pa_cons (pv 7) pa_nil)) (pv 5)) (pa_cons (pv 6) pa_nil))) pa_nil)) pa_nil))))))))), ?_⟩
    obtain ⟨⟨c1, c2⟩, c3, _, _, c7⟩ := bak_parts hb
    obtain ⟨c8, c9, hok⟩ := c7 g (List.mem_singleton.mpr rfl)
    dsimp only at c1 c2 c3 c8
    obtain ⟨a, l, v2, ga, xl, xg, rfl, ht, hl, hla, h2, hgl, hga⟩ := Th.bak hx
    have e2 := h2.opt
    subst e2
    obtain ⟨vg, hv, hvg⟩ := hga.get' (i := 0) (d := goodD g) rfl
    obtain ⟨tg, ad, xs, rfl, htg, hsg, hag⟩ := hvg.good
    have hxl : xl = ls.map V.int := hla.intsV
    have hxs := hag.length
    rw [List.length_map] at hxs
    obtain ⟨d, ds, hds⟩ : ∃ d ds, g.days = d :: ds := by
      cases h : g.days with
      | nil => rw [h] at c8; simp only [List.length_nil] at c8; omega
      | cons d ds => exact ⟨d, ds, rfl⟩
    obtain ⟨vd, hvd, hvdd⟩ := hag.get' (i := 0) (d := dayD d) (by rw [hds]; rfl)
    obtain ⟨td, rfl, htd⟩ := hvdd.day
    have hfd : firstD g d0 d1 = ⟨0, d.loaf + d0, d1, none⟩ := by unfold firstD; rw [hds]; rfl
    have hll : xl.length = ls.length := by rw [hxl, List.length_map]
    walk_at "wp"
    refine ⟨_, ht, rfl, ?_⟩
    walk_at "wp"
    refine ⟨_, _, hgl, atI_nat (j := 0) hv, ?_⟩
    walk_at "wp"
    refine ⟨_, htg, rfl, ?_⟩
    walk_at "wp"
    refine ⟨_, _, hsg, atI_nat (j := 0) hvd, ?_⟩
    walk_at "wp"
    refine ⟨_, _, htd, atI_nat (j := 1) rfl, _, _, hpd, atI_nat (j := 0) rfl, ?_⟩
    walk_at "wp"
    refine ⟨_, _, hpd, atI_nat (j := 1) rfl, sz100 (by decide), fun p1 n1 => ?_⟩
    have S1 := same_upd (o := .tup [V.int 0, V.int (d.loaf + d0), V.int d1, V.non]) n1
    have E1 : upd H p1 (.tup [V.int 0, V.int (d.loaf + d0), V.int d1, V.non]) p1 = some (.tup [V.int 0, V.int (d.loaf + d0), V.int d1, V.non]) := upd_same
    generalize upd H p1 (.tup [V.int 0, V.int (d.loaf + d0), V.int d1, V.non]) = H1 at S1 E1 ⊢
    refine ⟨_, _, S1.seq hl, by rw [hxl]; exact atI_nat (j := 0) (rowF_get (by omega)), _, _, S1.seq hpd, atI_nat (j := 2) rfl, ?_⟩
    walk_at "wp"
    refine ⟨sz100 (by decide), fun p2 n2 => ?_⟩
    have S2 := same_upd (o := .lst [V.int (rowF ls 0 + d2)]) n2
    have E2 : upd H1 p2 (.lst [V.int (rowF ls 0 + d2)]) p2 = some (.lst [V.int (rowF ls 0 + d2)]) := upd_same
    generalize upd H1 p2 (.lst [V.int (rowF ls 0 + d2)]) = H2 at S2 E2 ⊢
    refine ⟨_, _, SqL.of E2, (S1.trans S2).seq hl, sz100 (by show 1 + xl.length ≤ 100000; omega), fun p3 n3 => ?_⟩
    have S3 := same_upd (o := .lst ([V.int (rowF ls 0 + d2)] ++ xl)) n3
    have E3 : upd H2 p3 (.lst ([V.int (rowF ls 0 + d2)] ++ xl)) p3 = some (.lst (((rowF ls 0 + d2) :: ls).map V.int)) := by rw [upd_same, hxl]; rfl
    generalize upd H2 p3 (.lst ([V.int (rowF ls 0 + d2)] ++ xl)) = H3 at S3 E3 ⊢
    refine ⟨sz100 (by decide), fun p4 n4 => ?_⟩
    have S4 := same_upd (o := .lst [V.ref p1]) n4
    have E4 : upd H3 p4 (.lst [V.ref p1]) p4 = some (.lst [V.ref p1]) := upd_same
    generalize upd H3 p4 (.lst [V.ref p1]) = H4 at S4 E4 ⊢
    have S14 := S2.trans (S3.trans S4)
    refine ⟨_, _, SqL.of E4, (S1.trans S14).seq hsg, sz100 (by show 1 + xs.length ≤ 100000; omega), fun p5 n5 => ?_⟩
    have S5 := same_upd (o := .lst ([V.ref p1] ++ xs)) n5
    have E5 : upd H4 p5 (.lst ([V.ref p1] ++ xs)) p5 = some (.lst (V.ref p1 :: xs)) := upd_same
    generalize upd H4 p5 (.lst ([V.ref p1] ++ xs)) = H5 at S5 E5 ⊢
    refine ⟨sz100 (by decide), fun p6 n6 => ⟨sz100 (by decide), fun p7 n7 => ⟨sz100 (by decide), fun p8 n8 => ?_⟩⟩⟩
    have S6 := same_upd (o := .tup [V.ref p5, optV g.life]) n6
    have S7 := same_upd (o := .lst [V.ref p6]) n7
    have S8 := same_upd (o := .tup [V.ref p3, optV none, V.ref p7]) n8
    have S68 := S6.trans (S7.trans S8)
    have S15 := S14.trans S5
    refine q _ _ (S1.trans (S15.trans S68)) ?_
    refine .tup (SqT.of upd_same) (.cons (.lst (SqL.of ((S4.trans (S5.trans S68)) _ _ E3)) (.ints _)) (.cons (Th.optV none) (.cons (.lst (SqL.of (S8 _ _ upd_same)) (.cons ?_ .nil)) .nil)))
    refine .tup (SqT.of ((S7.trans S8) _ _ upd_same)) (.cons (.lst (SqL.of (S68 _ _ E5)) (.cons ?_ (hag.same (S1.trans (S15.trans S68))))) (.cons (Th.optV _) .nil))
    rw [hfd]
    exact th_of_day (SqT.of ((S15.trans S68) _ _ E1))
end
end Bk

namespace Bk
open PySem PySem.Spec PyProof.Rows L2
local macro_rules | `(tactic| walk_at "wp") => `(tactic| try simp only [tScT, cxW, rExtend_r, rSortU_r, rSetOf_r, rSortedSet_r, rNinr_r, rNeN_r, rCatL_r, rSlT_r, rListOf_r, rIsB_b, rNotB_b, tFmtO, tJs, tOst, tCallS, WE, tRaise2, rOne_i, rSorD_r, tDNewK, Int.zero_add, tNever, tFor_eq, tLc_eq, iList, iTup, iRng1_eq, rRng1_i, iRng2_eq, rRng2_i, iEnum_eq, rEnum_r, iZip_eq, rZip_r, tSl, tPart, tNoPart, rSlL_r, rCat_r, rIn_r, rNin_r, rRepr_r, iRevR, rMin_r, rShr_i, rOdd_i, rSetL_r, gSub, rRg1_i, rRg2_i, rInr_r, tAug, ipI_ii, tLstRg, tRg1, tRg2, gTup_r, gUnl_r, rInt1_b, rInt1_i, rRep_r, tStep_r, scal, tSeq, tNext, tAsg, tRet, tRetN, tIfS, tDrop, tCB, tCons, tNil, tVar, tOp, tUn, tC, rU_i, rI_ii, rI0_ii, rEq, rNe, tTest, tB, tAnd, tOr, tNot, tAndV, tOrV, tNotV, tIf, tChain, tLst, tTup, tBM, tBM0, rAppend_r, rIxL_r, rIxT_r, rMx_ii, rMn_ii, rLnL_r, rLnT_r, rIsD_int, rIsD_bool, rIsD_list, rIsD_tuple, tCall, gName, gNil_n, gCons_c, cxK, L2.start, List.map, List.replicate, List.length_cons, List.length_nil, List.cons_append, List.nil_append, List.append_nil, List.getElem?_cons_zero, List.getElem?_cons_succ, Option.some.injEq, exists_eq_left', exists_eq_left, V.int.injEq, V.bl.injEq, V.str.injEq, V.ref.injEq, List.cons.injEq, and_true, true_and, and_self, List.set, wipe, rAll_r, rSum_r, reduceCtorEq, decide_true, decide_false, reduceIte, ite_true, ite_false, if_true, if_false, Bool.false_eq_true, Bool.not_true, Bool.not_false])
local macro_rules | `(tactic| walk_at "shaped") => `(tactic| (simp only [SeqAt.shaped, PyData.canLay0, PyData.canLayAll0, PyData.depth, PyData.depthAll]; rfl))
local macro_rules | `(tactic| walk_at "lay") => `(tactic| (simp only [PyData.canLay0, PyData.canLayAll0]; rfl))
local macro_rules | `(tactic| walk_at "wg") => `(tactic| try simp only [gName, gTup_r, gCons_c, gNil_n, cxK, List.set, List.cons.injEq, and_true, true_and, exists_eq_left', exists_eq_left, List.length_cons, List.length_nil])
section
variable {P : Program} {w : World} {K : PySem.W.Frag} {mg : Str → Option Value} {base : Heap}
abbrev s_lit_days : Stmt := top 43
theorem sc_lit_days : FnScope ["plan", "baked", "good", "given", "many"] ["plan"] (defScope s_lit_days) := ⟨rfl, rfl, rfl, by decide +kernel, rfl, by decide +kernel, by decide +kernel⟩
def spLitD (K : PySem.W.Frag) : Sp := fun vs H Q _ => ∃ p g es, vs = [.ref p] ∧ PlanAt g H p es ∧ es.length ≤ 40 ∧ ∀ H' q ms, Same H H' → H' q = some (.lst ((ms : List Int).map V.int)) → ms.Pairwise (· < ·) → (∀ k : Int, k ∈ ms ↔ ∃ e ∈ es, ((e.1 : Nat) : Int) = k) → ms.length ≤ 40 → Q (.ref q) H'
theorem ok_lit_days {f : Addr} {fd : FuncData} (F : Fun K "lit_days" "lit_days" s_lit_days f fd) (Bs : mg "sorted" = none) : FnOk P w K mg base CX0 1 f fd ["plan"] (spLitD K) := by
  refine F.ok sc_lit_days (fun vs H Q E h => ?_) (fun cdv A outer s H vs Q E hr h => ?_)
  · obtain ⟨_, _, _, rfl, _⟩ := h
    rfl
  · obtain ⟨p, g, es, rfl, hP, hel, q⟩ := h
    refine ⟨_, (pss_one (ps_ret (pe_callB (cr_sortedSet rfl) (by rfl) Bs (by decide +kernel) (pa_cons (pe_scT rfl (pv 0) (by decide +kernel) rfl rfl rfl rfl rfl (by decide +kernel) (by decide)) pa_nil)))), ?_⟩
    obtain ⟨rs, ep, hpl⟩ := hP.ex
    obtain ⟨zs, hz1, hz2, hz3⟩ := planV_zip hpl
    have hzl : zs.length = es.length := by rw [← hz2, List.length_map]
    have ep' : H p = some (.lst ((zs.map fun z => (z.1, ((z.2.1 : Nat) : Int))).map fun z => V.ref z.1)) := by rw [ep, ← hz1, List.map_map, List.map_map]; rfl
    have em : (zs.map fun z => (z.1, ((z.2.1 : Nat) : Int))).map (·.2) = es.map fun e => ((e.1 : Nat) : Int) := by
      rw [← hz2, List.map_map, List.map_map]
      rfl
    walk_at "wp"
    refine ⟨p, zs.map fun z => (z.1, ((z.2.1 : Nat) : Int)), rfl, SqL.of ep', fun z hz => ?_, by rw [List.length_map]; omega, fun D n hD hn => ?_⟩
    · obtain ⟨y, hy, rfl⟩ := List.mem_map.mp hz
      exact ⟨_, _, _, SqT.of (hz3 y hy).2⟩
    rw [em]
    rw [List.length_map] at hn
    have S1 := same_upd (o := SetO w D (fun j => decide (j ∈ es.map fun e => ((e.1 : Nat) : Int))) n) hD
    have E1 : upd H D (SetO w D (fun j => decide (j ∈ es.map fun e => ((e.1 : Nat) : Int))) n) D = some (SetO w D (fun j => decide (j ∈ es.map fun e => ((e.1 : Nat) : Int))) n) := upd_same
    generalize upd H D (SetO w D (fun j => decide (j ∈ es.map fun e => ((e.1 : Nat) : Int))) n) = H1 at S1 E1 ⊢
    walk_at "wp"
    refine ⟨_, n, E1, by omega, fun ms p3 hpw hmem hml hp3 => ?_⟩
    refine q _ _ ms (S1.trans (same_upd hp3)) upd_same hpw (fun k => ?_) (by omega)
    rw [hmem k, decide_eq_true_eq, List.mem_map]
abbrev s_cost_of : Stmt := top 44
theorem sc_cost_of : FnScope ["bakery", "plan", "lights", "bound", "goods", "lit", "day", "baked", "good", "given", "many"] ["bakery", "plan"] (defScope s_cost_of) := ⟨rfl, rfl, rfl, by decide +kernel, rfl, by decide +kernel, by decide +kernel⟩
def spCostOf (K : PySem.W.Frag) : Sp := fun vs H Q _ => ∃ x ls g p es row, vs = [x, .ref p] ∧ Th K H x (bakD ⟨ls, none, [g]⟩) ∧ bakB (bakD ⟨ls, none, [g]⟩) = true ∧ PlanAt g H p es ∧ IsRow g (rowF ls) row ls.length ∧ CheapI g (rowF ls) row ls.length 0 es ∧ ∀ H', Same H H' → Q (.int (row ls.length)) H'
theorem ok_cost_of {f : Addr} {fd : FuncData} (F : Fun K "cost_of" "cost_of" s_cost_of f fd) (B : Bi mg) (D_look_at_bakery : Def P w K mg base "look_at_bakery" 6 ["thing"] (spLook K)) (D_lit_days : Def P w K mg base "lit_days" 1 ["plan"] (spLitD K)) (D_loaf_price : Def P w K mg base "loaf_price" 2 ["good", "baked", "given"] (spLoafP K)) : FnOk P w K mg base CX0 7 f fd ["bakery", "plan"] (spCostOf K) := by
  refine F.ok sc_cost_of (fun vs H Q E h => ?_) (fun cdv A outer s H vs Q E hr h => ?_)
  · obtain ⟨_, _, _, _, _, _, rfl, _⟩ := h
    rfl
  · obtain ⟨x, ls, g, p, es, row, rfl, hx, hb, hP, hR, hC, q⟩ := h
    refine ⟨_, (pss_cons (ps_expr (pe_callD D_look_at_bakery hr (by rfl) (pa_cons (pv 0) pa_nil)))
 (pss_cons (ps_asg (pv 0) (pg_tup rfl (pgs_cons (pg_name (i := 2) sc_cost_of.nd rfl (Or.inr rfl)) (pgs_cons (pg_name (i := 3) sc_cost_of.nd rfl (Or.inl rfl)) (pgs_cons (pg_name (i := 4) sc_cost_of.nd rfl (Or.inr rfl)) pgs_nil)))))
 (pss_cons (ps_set (i := 5) sc_cost_of.nd rfl (Or.inl rfl) (pe_callB (cr_sum rfl) (by rfl) B.sum (by decide +kernel) (pa_cons (pe_lc (own := [("day", 6)]) (g := (gName 6)) (te := (tOp (rIxL K) _ _)) rfl sc_cost_of.nd (pi_list (pe_callD D_lit_days hr (by rfl) (pa_cons (pv 1) pa_nil))) (blkOk_by (own := [("day", 6)]) (N := ["bakery", "plan", "lights", "bound", "goods", "lit", "day", "baked", "good", "given", "many"]) (sc := defScope s_cost_of) (by decide +kernel)) (fun _ _ _ _ _ => (pg_name (i := 6) sc_cost_of.nd rfl (Or.inl rfl))) (fun _ _ _ _ _ => pts_nil) (fun _ _ _ _ _ => (pe_ix ix_list (pv 2) (pv 6) (fun _ _ => rfl)))) pa_nil)))
 (pss_one (ps_ret (pe_op op_add (pv 5) (pe_callB (cr_sum rfl) (by rfl) B.sum (by decide +kernel) (pa_cons (pe_lc (own := [("baked", 7), ("good", 8), ("given", 9), ("many", 10)]) (g := (gTup K 4 (gCons (gName 7) (gCons (gName 8) (gCons (gName 9) (gCons (gName 10) gNil)))))) (te := (tOp _ _ (tCall _ _ _ (tCons (tOp (rIxL K) _ _) (tCons _ (tCons _ tNil)))))) rfl sc_cost_of.nd (pi_list (pv 1)) (blkOk_by (own := [("baked", 7), ("good", 8), ("given", 9), ("many", 10)]) (N := ["bakery", "plan", "lights", "bound", "goods", "lit", "day", "baked", "good", "given", "many"]) (sc := defScope s_cost_of) (by decide +kernel)) (fun _ _ _ _ _ => (pg_tup rfl (pgs_cons (pg_name (i := 7) sc_cost_of.nd rfl (Or.inl rfl)) (pgs_cons (pg_name (i := 8) sc_cost_of.nd rfl (Or.inl rfl)) (pgs_cons (pg_name (i := 9) sc_cost_of.nd rfl (Or.inl rfl)) (pgs_cons (pg_name (i := 10) sc_cost_of.nd rfl (Or.inl rfl)) pgs_nil)))))) (fun _ _ _ _ _ => pts_nil) (fun _ _ _ _ _ => (pe_op op_mul (pv 10) (pe_callD D_loaf_price hr (by rfl) (pa_cons (pe_ix ix_list (pv 4) (pv 8) (fun _ _ => rfl)) (pa_cons (pv 7) (pa_cons (pv 9) pa_nil))))))) pa_nil)))))))), ?_⟩
    obtain ⟨⟨c1, c2⟩, c3, _, _, c7⟩ := bak_parts hb
    obtain ⟨c8, c9, hok⟩ := c7 g (List.mem_singleton.mpr rfl)
    dsimp only at c1 c2 c3 c8
    have N := nonNegW_of hok
    have nn : ∀ b, 0 ≤ rowF ls b := rowF_nonneg fun z hz => by
      have := c3 z hz
      simp only [numD, Bool.and_eq_true, decide_eq_true_eq] at this
      exact this.1
    walk_at "wp"
    refine ⟨_, _, rfl, hx, hb, fun H1 S1 => ?_⟩
    obtain ⟨a, l, v2, ga, xl, xg, rfl, ht, hl, hla, h2, hgl, hga⟩ := Th.bak (hx.same S1)
    obtain ⟨vg, hv, hvg⟩ := hga.get' (i := 0) (d := goodD g) rfl
    have hxl : xl = ls.map V.int := hla.intsV
    obtain ⟨rs, ep, hpl⟩ := hP.ex
    obtain ⟨zs, hz1, hz2, hz3⟩ := planV_zip hpl
    have hzl : zs.length = es.length := by rw [← hz2, List.length_map]
    have hel : es.length ≤ 40 := by
      have h1 := hC.days.length_eq
      rw [List.length_map] at h1
      rw [h1]
      refine Nat.le_trans (List.length_filter_le _ _) ?_
      rw [List.length_range]
      exact c2
    have hze : ∀ z ∈ zs, z.2 ∈ es := fun z hz => by rw [← hz2]; exact List.mem_map.mpr ⟨z, hz, rfl⟩
    have hzk : ∀ z ∈ zs, z.2.1 < ls.length ∧ z.2.2 < ls.length := fun z hz => by
      refine ⟨(hC.price _ (hze z hz)).1, ?_⟩
      have h1 : z.2.2 ∈ es.map Prod.snd := List.mem_map.mpr ⟨z.2, hze z hz, rfl⟩
      exact List.mem_range.mp (List.mem_filter.mp (hC.days.mem_iff.mp h1)).1
    have ep' : H p = some (.lst (zs.map fun z => V.ref z.1)) := by rw [ep, ← hz1, List.map_map]; rfl
    walk_at "wp"
    refine ⟨_, ht, rfl, ?_⟩
    walk_at "wp"
    refine ⟨p, g, es, rfl, ⟨rs, S1 _ _ ep, PySem.Paired.mono (fun r e ⟨z1, z2⟩ => ⟨z1, S1 _ _ z2⟩) hpl⟩, hel, fun H2 p2 ms S2 hp2 hpw hmem hml => ?_⟩
    have hmk : ∀ k ∈ ms, ∃ d : Nat, k = (d : Int) ∧ d < ls.length ∧ ∃ e ∈ es, e.1 = d := fun k hk => by
      obtain ⟨e, he, rfl⟩ := (hmem k).mp hk
      exact ⟨e.1, rfl, (hC.price _ he).1, e, he, rfl⟩
    walk_at "wp"
    refine ⟨⟨_, SqL.of hp2⟩, fun D4 hD4 => ?_⟩
    refine LcR.map (walk_list (xs := ms.map V.int)) ((ms.map fun k => rowF ls k.toNat).map V.int) hD4 (by rw [List.length_map, List.length_map, List.length_map]) (by rw [List.length_map]; omega) (fun H s => s.seq (SqL.of hp2)) (fun _ _ _ _ y => yat_same y) (fun i x y H0 H4 hi s4 yy hy R hR2 => ?_) (fun H4 s4 hH4 => ?_)
    · obtain ⟨rfl, hxi⟩ := yy
      rw [List.length_map] at hi
      rw [List.getElem?_map, List.getElem?_eq_getElem hi] at hxi
      rw [List.getElem?_map, List.getElem?_map, List.getElem?_eq_getElem hi] at hy
      cases hxi
      cases hy
      obtain ⟨d, ed, hdl, _⟩ := hmk _ (List.getElem_mem hi)
      generalize ms[i] = k at ed hR2 ⊢
      subst ed
      walk_at "wp"
      refine ⟨_, _, (S2.trans s4).seq hl, by rw [hxl]; exact atI_nat (rowF_get hdl), ?_⟩
      have := hR2 _ (Same.refl _)
      dsimp only at this
      rw [Int.toNat_natCast] at this
      exact this
    · have hsum : (ms.map fun k => rowF ls k.toNat).sum = litSum (rowF ls) (fun d => ∃ e ∈ es, e.1 = d) ls.length := by
        have hnd : (ms.map Int.toNat).Nodup := by
          rw [List.nodup_iff_pairwise_ne, List.pairwise_map]
          refine hpw.imp_of_mem fun {x y} hx hy h => ?_
          obtain ⟨d, rfl, _⟩ := hmk x hx
          obtain ⟨e, rfl, _⟩ := hmk y hy
          omega
        have h1 := litSum_nodup (rowF ls) ls.length (ms.map Int.toNat) hnd fun m hm => by
          obtain ⟨k, hk, rfl⟩ := List.mem_map.mp hm
          obtain ⟨d, rfl, hd, _⟩ := hmk k hk
          rw [Int.toNat_natCast]
          exact hd
        rw [List.map_map] at h1
        refine (show (ms.map fun k => rowF ls k.toNat).sum = _ from h1).trans (litSum_congr fun d hd => ?_)
        constructor
        · intro hm
          obtain ⟨k, hk, rfl⟩ := List.mem_map.mp hm
          obtain ⟨d, rfl, _, h⟩ := hmk k hk
          rw [Int.toNat_natCast]
          exact h
        · rintro ⟨e, he, rfl⟩
          exact List.mem_map.mpr ⟨(e.1 : Int), (hmem _).mpr ⟨e, he, rfl⟩, Int.toNat_natCast _⟩
      have S14 := S1.trans (S2.trans s4)
      walk_at "wp"
      refine ⟨_, SqL.of hH4, ?_⟩
      rw [hsum]
      walk_at "wp"
      refine ⟨⟨_, SqL.of (S14 _ _ ep')⟩, fun D5 hD5 => ?_⟩
      refine LcR.map (walk_list (xs := zs.map fun z => V.ref z.1)) ((zs.map fun z => wantN g z.2.2 * (loafP g z.2.1 z.2.2).getD 0).map V.int) hD5 (by rw [List.length_map, List.length_map, List.length_map]) (by rw [List.length_map]; omega) (fun H s => s.seq (SqL.of (S14 _ _ ep'))) (fun _ _ _ _ y => yat_same y) (fun i x y H0 H5 hi s5 yy hy R hR2 => ?_) (fun H5 s5 hH5 => ?_)
      · obtain ⟨rfl, hxi⟩ := yy
        rw [List.length_map] at hi
        rw [List.getElem?_map, List.getElem?_eq_getElem hi] at hxi
        rw [List.getElem?_map, List.getElem?_map, List.getElem?_eq_getElem hi] at hy
        cases hxi
        cases hy
        have hzm := List.getElem_mem hi
        generalize zs[i] = z at hzm hR2 ⊢
        have h3 := hz3 z hzm
        obtain ⟨k1, k2⟩ := hzk z hzm
        obtain ⟨_, pz, hpz⟩ := hC.price _ (hze z hzm)
        have hw : 0 ≤ wantN g z.2.2 ∧ wantN g z.2.2 ≤ 1000000000 := by
          unfold wantN
          rw [List.getElem?_eq_getElem (show z.2.2 < g.days.length by omega)]
          have := hok _ (List.getElem_mem (show z.2.2 < g.days.length by omega))
          simp only [dayD, dayB, numD, Bool.and_eq_true, decide_eq_true_eq] at this
          exact this.1.1.1
        have S15 := S14.trans s5
        walk_at "wp"
        refine ⟨_, SqT.of (S15 _ _ h3.2), rfl, ?_⟩
        walk_at "wp"
        refine ⟨_, _, ((S2.trans s4).trans s5).seq hgl, atI_nat (j := 0) hv, ?_⟩
        refine ⟨_, g, z.2.1, z.2.2, rfl, hvg.same ((S2.trans s4).trans s5), by omega, by omega, fun H6 S6 => ?_⟩
        dsimp only at hR2
        rw [hpz] at hR2 ⊢
        simp only [optV]
        walk_at "wp"
        exact ⟨.inl ⟨by omega, by omega⟩, hR2 _ S6⟩
      · walk_at "wp"
        refine ⟨_, SqL.of hH5, ?_⟩
        walk_at "wp"
        have hle : (zs.map fun z => wantN g z.2.2 * (loafP g z.2.1 z.2.2).getD 0).sum = loavesE g es := by
          unfold loavesE
          rw [← hz2, List.map_map]
          rfl
        rw [hle, hC.eq hR (by omega) nn N (life_ok c9)]
        exact q _ (S14.trans s5)
end
end Bk

namespace Bk
open PySem PySem.Spec PyProof.Rows L2
local macro_rules | `(tactic| walk_at "wp") => `(tactic| try simp only [tScT, cxW, rExtend_r, rSortU_r, rSetOf_r, rSortedSet_r, rNinr_r, rNeN_r, rCatL_r, rSlT_r, rListOf_r, rIsB_b, rNotB_b, tFmtO, tJs, tOst, tCallS, WE, tRaise2, rOne_i, rSorD_r, tDNewK, Int.zero_add, tNever, tFor_eq, tLc_eq, iList, iTup, iRng1_eq, rRng1_i, iRng2_eq, rRng2_i, iEnum_eq, rEnum_r, iZip_eq, rZip_r, tSl, tPart, tNoPart, rSlL_r, rCat_r, rIn_r, rNin_r, rRepr_r, iRevR, rMin_r, rShr_i, rOdd_i, rSetL_r, gSub, rRg1_i, rRg2_i, rInr_r, tAug, ipI_ii, tLstRg, tRg1, tRg2, gTup_r, gUnl_r, rInt1_b, rInt1_i, rRep_r, tStep_r, scal, tSeq, tNext, tAsg, tRet, tRetN, tIfS, tDrop, tCB, tCons, tNil, tVar, tOp, tUn, tC, rU_i, rI_ii, rI0_ii, rEq, rNe, tTest, tB, tAnd, tOr, tNot, tAndV, tOrV, tNotV, tIf, tChain, tLst, tTup, tBM, tBM0, rAppend_r, rIxL_r, rIxT_r, rMx_ii, rMn_ii, rLnL_r, rLnT_r, rIsD_int, rIsD_bool, rIsD_list, rIsD_tuple, tCall, gName, gNil_n, gCons_c, cxK, L2.start, List.map, List.replicate, List.length_cons, List.length_nil, List.cons_append, List.nil_append, List.append_nil, List.getElem?_cons_zero, List.getElem?_cons_succ, Option.some.injEq, exists_eq_left', exists_eq_left, V.int.injEq, V.bl.injEq, V.str.injEq, V.ref.injEq, List.cons.injEq, and_true, true_and, and_self, List.set, wipe, rAll_r, rSum_r, reduceCtorEq, decide_true, decide_false, reduceIte, ite_true, ite_false, if_true, if_false, Bool.false_eq_true, Bool.not_true, Bool.not_false])
local macro_rules | `(tactic| walk_at "shaped") => `(tactic| (simp only [SeqAt.shaped, PyData.canLay0, PyData.canLayAll0, PyData.depth, PyData.depthAll]; rfl))
local macro_rules | `(tactic| walk_at "lay") => `(tactic| (simp only [PyData.canLay0, PyData.canLayAll0]; rfl))
local macro_rules | `(tactic| walk_at "wg") => `(tactic| try simp only [gName, gTup_r, gCons_c, gNil_n, cxK, List.set, List.cons.injEq, and_true, true_and, exists_eq_left', exists_eq_left, List.length_cons, List.length_nil])
section
variable {P : Program} {w : World} {K : PySem.W.Frag} {mg : Str → Option Value} {base : Heap}
abbrev s_bakery : Stmt := top 69
theorem sc_bakery : FnScope ["_law_script", "_law_upto", "_law_salt", "_law_head", "_law_lights", "_law_days_here", "_law_lives"] ["_law_script", "_law_upto", "_law_salt"] (defScope s_bakery) := ⟨rfl, rfl, rfl, by decide +kernel, rfl, by decide +kernel, by decide +kernel⟩
def spBakery (K : PySem.W.Frag) : Sp := fun vs H Q _ => ∃ (a : Addr) (ns : List Int) (u : Nat) (s : Int), vs = [.ref a, .int (u : Int), .int s] ∧ SqL K H a (ns.map V.int) ∧ ns.length ≤ 63 ∧ u ≤ 41 ∧ 0 ≤ s ∧ s ≤ 10000 ∧
  ∀ (H' : Hp) (x : V) (ls : List Int) (g : Good), Same H H' → Tk (newOf H H') x (bakD ⟨ls, none, [g]⟩) → bakB (bakD ⟨ls, none, [g]⟩) = true → ls.length = nDays u ns.length → Q x H'
def livesO : List (Option Int) := [none, none, some 0, some 1, some 2, some 3, some 4, some 5, some 7, some 11, some 23, some 40]
theorem lives_at {i : Int} (h0 : 0 ≤ i) (h1 : i < 12) : ∃ o, atI (livesO.map optV) i = some (optV o) ∧ lifeB (optD o) = true := by
  have hi : i.toNat < livesO.length := by
    show i.toNat < 12
    omega
  refine ⟨livesO[i.toNat], atI_of h0 (by rw [List.getElem?_map, List.getElem?_eq_getElem hi]; rfl), ?_⟩
  have : ∀ o ∈ livesO, lifeB (optD o) = true := by decide
  exact this _ (List.getElem_mem hi)
theorem ok_bakery {f : Addr} {fd : FuncData} (F : Fun K "_law_bakery" "_law_bakery" s_bakery f fd) (D_numbers : Def P w K mg base "_law_numbers" 1 ["_law_cell", "_law_salt", "_law_sizes"] (spNumbers K)) (D_cell_at : Def P w K mg base "_law_cell_at" 1 ["_law_script", "_law_k"] (spCellAt K)) (D_days : Def P w K mg base "_law_days" 2 ["_law_script", "_law_first", "_law_upto", "_law_salt", "_law_late"] (spDays K)) :
    FnOk P w K mg base CX0 3 f fd ["_law_script", "_law_upto", "_law_salt"] (spBakery K) := by
  refine F.ok sc_bakery (fun vs H Q E h => ?_) (fun cdv A outer s H vs Q E hr h => ?_)
  · obtain ⟨a, ns, u, s, rfl, _⟩ := h
    rfl
  · obtain ⟨a, ns, u, s, rfl, hS, hn, hu, hs0, hs1, q⟩ := h
    refine ⟨_, (pss_cons (ps_set (i := 3) sc_bakery.nd rfl (Or.inl rfl) (pe_callD D_numbers hr (by rfl) (pa_cons (pe_callD D_cell_at hr (by rfl) (pa_cons (pv 0) (pa_cons pe_int pa_nil))) (pa_cons (pv 2) (pa_cons (pe_lst (pa_cons pe_int (pa_cons pe_int (pa_cons pe_int pa_nil)))) pa_nil)))))
 (pss_cons (ps_asg (pe_callD D_days hr (by rfl) (pa_cons (pv 0) (pa_cons pe_int (pa_cons (pv 1) (pa_cons (pv 2) (pa_cons (pe_cmpR op_eq (pe_ix ix_list (pv 3) pe_int (fun _ _ => rfl)) pe_int (nomark _)) pa_nil)))))) (pg_tup rfl (pgs_cons (pg_name (i := 4) sc_bakery.nd rfl (Or.inl rfl)) (pgs_cons (pg_name (i := 5) sc_bakery.nd rfl (Or.inl rfl)) pgs_nil))))
 (pss_cons (ps_set (i := 6) sc_bakery.nd rfl (Or.inl rfl) (pe_lst (pa_cons pe_non (pa_cons pe_non (pa_cons pe_int (pa_cons pe_int (pa_cons pe_int (pa_cons pe_int (pa_cons pe_int (pa_cons pe_int (pa_cons pe_int (pa_cons pe_int (pa_cons pe_int (pa_cons pe_int pa_nil))))))))))))))
 (pss_one (ps_ret (pe_tup (pa_cons (pv 4) (pa_cons pe_non (pa_cons (pe_lst (pa_cons (pe_tup (pa_cons (pv 5) (pa_cons (pe_ix ix_list (pv 6) (pe_ix ix_list (pv 3) pe_int (fun _ _ => rfl)) (fun _ _ => rfl)) pa_nil))) pa_nil)) pa_nil))))))))), ?_⟩
    walk_at "wp"
    refine ⟨a, ns, 0, rfl, hS, fun c => ⟨sz100 (by decide), fun p1 h1 => ?_⟩⟩
    refine ⟨c, s, p1, [3, 12, 2], rfl, SqL.of upd_same, hs0, by omega, by decide, by decide, fun H1 pd fs S1 hpd hD hfs => ?_⟩
    have S1 := (same_upd h1).trans S1
    obtain ⟨f0, f1, f2, rfl⟩ := three hD.1
    have b1 := hD.2 1 f1 _ rfl rfl
    have hF : SqL K H1 pd [V.int f0, V.int f1, V.int f2] := SqL.of hfs
    clear hD h1 hpd hfs
    walk_at "wp"
    refine ⟨_, _, hF, atI_nat (j := 2) rfl, ?_⟩
    walk_at "wp"
    refine ⟨a, ns, u, s, decide (f2 = 1), rfl, S1.seq hS, by omega, hu, hs0, by omega, fun H2 p l d ls ds S2 hp Ep hl hd hll hdl hlb hdb => ?_⟩
    walk_at "wp"
    refine ⟨_, SqT.of Ep, rfl, ?_⟩
    walk_at "wp"
    have hF2 := S2.seq hF
    have hnd : 1 ≤ nDays u ns.length ∧ nDays u ns.length ≤ 40 := by unfold nDays; omega
    refine ⟨sz100 (by decide), fun p3 h3 => ?_⟩
    have S3 := same_upd (o := .lst (livesO.map optV)) h3
    have E3 : upd H2 p3 (.lst (livesO.map optV)) p3 = some (.lst (livesO.map optV)) := upd_same
    change ∃ xs v, SqL K (upd H2 p3 (.lst (livesO.map optV))) pd xs ∧ atI xs 1 = some v ∧ rIxL K (V.ref p3) v (upd H2 p3 (.lst (livesO.map optV))) _
    generalize upd H2 p3 (.lst (livesO.map optV)) = H3 at S3 E3 ⊢
    refine ⟨_, _, S3.seq hF2, atI_nat (j := 1) rfl, ?_⟩
    obtain ⟨o1, ho1, hob1⟩ := lives_at b1.1 b1.2
    refine ⟨p3, _, f1, _, rfl, rfl, SqL.of E3, ho1, sz100 (by decide), fun t1 ht1 => ⟨sz100 (by decide), fun g hg => ?_⟩⟩
    have S4 := same_upd (o := .tup [V.ref d, optV o1]) ht1
    have E4 : upd H3 t1 (.tup [V.ref d, optV o1]) t1 = some (.tup [V.ref d, optV o1]) := upd_same
    generalize upd H3 t1 (.tup [V.ref d, optV o1]) = H4 at S4 E4 hg ⊢
    have S5 := same_upd (o := .lst [V.ref t1]) hg
    have E5 : upd H4 g (.lst [V.ref t1]) g = some (.lst [V.ref t1]) := upd_same
    generalize upd H4 g (.lst [V.ref t1]) = H5 at S5 E5 ⊢
    refine ⟨sz100 (by decide), fun pf hpf => ?_⟩
    have S6 := same_upd (o := .tup [V.ref l, V.non, V.ref g]) hpf
    have E6 : upd H5 pf (.tup [V.ref l, V.non, V.ref g]) pf = some (.tup [V.ref l, V.non, V.ref g]) := upd_same
    generalize upd H5 pf (.tup [V.ref l, V.non, V.ref g]) = H6 at S6 E6 ⊢
    have S26 := S3.trans (S4.trans (S5.trans S6))
    have S06 := (S1.trans S2).trans S26
    have hg0 : H g = none := ((S1.trans S2).trans (S3.trans S4)).free hg
    have ht0 : H t1 = none := ((S1.trans S2).trans S3).free ht1
    have hf0 : H pf = none := ((S1.trans S2).trans (S3.trans (S4.trans S5))).free hpf
    have hd6 : Tk (newOf H H6) (.ref d) (.list (ds.map dayD)) := hd.same (newOf_to S1 fun b o _ e => S26 b o e)
    have hl6 : Tk (newOf H H6) (.ref l) (.list (ls.map PyData.int)) := hl.same (newOf_to S1 fun b o _ e => S26 b o e)
    have hgood : Tk (newOf H H6) (.ref t1) (goodD ⟨ds, o1⟩) := .tup (newOf_at ht0 ((S5.trans S6) _ _ E4)) (.cons hd6 (.cons (Tk.optV o1) .nil))
    refine q H6 (.ref pf) ls ⟨ds, o1⟩ S06 ?_ (bakB_mk (by show 1 ≤ ls.length; omega) (by show ls.length ≤ 40; omega) hlb rfl (by show 1 ≤ 1; decide) (by show 1 ≤ 2; decide) ?_) hll
    · exact .tup (newOf_at hf0 E6) (.cons hl6 (.cons .non (.cons (.lst (newOf_at hg0 (S6 _ _ E5)) (.cons hgood .nil)) .nil)))
    · intro z hz
      rw [List.mem_singleton.mp hz]
      exact ⟨hdl.trans hll.symm, hob1, hdb⟩
abbrev s_law : Stmt := top 73
theorem sc_law : FnScope ["_law_script", "_law_bakery_here", "_law_digits", "_law_times", "_law_more", "_law_row", "_law_prices", "_law_greater", "_law_dearer", "_law_wants", "_law_later", "_law_one", "_law_day_here", "_law_many"] ["_law_script"] (defScope s_law) := ⟨rfl, rfl, rfl, by decide +kernel, rfl, by decide +kernel, by decide +kernel⟩
theorem rowF_mul (ls : List Int) (t : Int) : rowF (ls.map (· * t)) = fun b => rowF ls b * t := by
  funext b
  unfold rowF
  rw [List.getD_eq_getElem?_getD, List.getD_eq_getElem?_getD, List.getElem?_map]
  cases ls[b]? with
  | none => show (0 : Int) = 0 * t; rw [Int.zero_mul]
  | some z => rfl
theorem rowF_cons (c : Int) (ls : List Int) : rowF (c :: ls) = shiftF c (rowF ls) := by
  funext b
  cases b with
  | zero => rfl
  | succ b => rfl
structure Sml (ls : List Int) (g : Good) : Prop where
  lights : ∀ z ∈ ls, 0 ≤ z ∧ z ≤ 10
  days : ∀ d ∈ g.days, (0 ≤ d.want ∧ d.want ≤ 1000000000) ∧ (0 ≤ d.loaf ∧ d.loaf ≤ 8) ∧ (0 ≤ d.keep ∧ d.keep ≤ 4) ∧ ∀ z, d.fine = some z → 0 ≤ z ∧ z ≤ 6
theorem num_of {z : Int} (h1 : 0 ≤ z) (h2 : z ≤ 1000000000) : numD (.int z) = true := by
  simp only [numD, Bool.and_eq_true, decide_eq_true_eq]
  exact ⟨h1, h2⟩
theorem day_nums {d : Day} (h1 : 0 ≤ d.want ∧ d.want ≤ 1000000000) (h2 : 0 ≤ d.loaf ∧ d.loaf ≤ 1000000000) (h3 : 0 ≤ d.keep ∧ d.keep ≤ 1000000000) (h4 : ∀ z, d.fine = some z → 0 ≤ z ∧ z ≤ 1000000000) : dayB (dayD d) = true := by
  simp only [dayD, dayB, num_of h1.1 h1.2, num_of h2.1 h2.2, num_of h3.1 h3.2, Bool.true_and]
  cases hf : d.fine with
  | none => rfl
  | some z =>
    simp only [optD, noneB, Bool.false_or]
    exact num_of (h4 z hf).1 (h4 z hf).2
theorem small_ok {ls : List Int} {g : Good} (hb : bakB (bakD ⟨ls, none, [g]⟩) = true) : bakB (bakD ⟨ls.map (· % 11), none, [smallG g]⟩) = true ∧ Sml (ls.map (· % 11)) (smallG g) := by
  obtain ⟨⟨c1, c2⟩, c3, _, _, c7⟩ := bak_parts hb
  obtain ⟨c8, c9, hok⟩ := c7 g (List.mem_singleton.mpr rfl)
  dsimp only at c1 c2 c3 c8
  have hS : Sml (ls.map (· % 11)) (smallG g) := by
    refine ⟨fun z hz => ?_, fun d hd => ?_⟩
    · obtain ⟨y, _, rfl⟩ := List.mem_map.mp hz
      have := Int.emod_nonneg y (show (11 : Int) ≠ 0 by decide)
      have := Int.emod_lt_of_pos y (show (0 : Int) < 11 by decide)
      omega
    · obtain ⟨e, he, rfl⟩ := List.mem_map.mp hd
      obtain ⟨b1, b2, b3, b4⟩ := days_nums (hok e he)
      refine ⟨b1, ?_, ?_, fun z hz => ?_⟩
      · show 0 ≤ e.loaf % 9 ∧ e.loaf % 9 ≤ 8
        omega
      · show 0 ≤ e.keep % 5 ∧ e.keep % 5 ≤ 4
        omega
      · have hz : e.fine.map (· % 7) = some z := hz
        obtain ⟨y, _, rfl⟩ := Option.map_eq_some_iff.mp hz
        omega
  refine ⟨bakB_mk (by show 1 ≤ (ls.map _).length; rw [List.length_map]; exact c1) (by show (ls.map _).length ≤ 40; rw [List.length_map]; exact c2) (fun z hz => ?_) rfl (by show 1 ≤ 1; decide) (by show 1 ≤ 2; decide) (fun g' hg => ?_), hS⟩
  · have := hS.lights z hz
    exact num_of this.1 (by omega)
  · rw [List.mem_singleton.mp hg]
    refine ⟨by show (g.days.map smallD).length = (ls.map _).length; rw [List.length_map, List.length_map, c8], c9, fun d hd => ?_⟩
    obtain ⟨h1, h2, h3, h4⟩ := hS.days d hd
    exact day_nums h1 ⟨h2.1, by omega⟩ ⟨h3.1, by omega⟩ fun z hz => ⟨(h4 z hz).1, by have := (h4 z hz).2; omega⟩
theorem mul_le {x c t : Int} (h1 : 0 ≤ x) (h2 : x ≤ c) (t1 : 0 ≤ t) (t2 : t ≤ 100000000) (hc : c ≤ 10) : 0 ≤ x * t ∧ x * t ≤ 1000000000 := by
  have h3 := Int.mul_nonneg h1 t1
  have h4 := Int.mul_le_mul_of_nonneg_right (Int.le_trans h2 hc) t1
  omega
theorem mul_ok {ls : List Int} {g : Good} {t m : Int} (hb : bakB (bakD ⟨ls, none, [g]⟩) = true) (hS : Sml ls g) (t1 : 0 ≤ t) (t2 : t ≤ 100000000) (m1 : 0 ≤ m) (hm : ∀ d ∈ g.days, d.loaf * t + m ≤ 1000000000) : bakB (bakD ⟨ls.map (· * t), none, [mulG t m g]⟩) = true := by
  obtain ⟨⟨c1, c2⟩, c3, _, _, c7⟩ := bak_parts hb
  obtain ⟨c8, c9, hok⟩ := c7 g (List.mem_singleton.mpr rfl)
  dsimp only at c1 c2 c3 c8
  refine bakB_mk (by show 1 ≤ (ls.map _).length; rw [List.length_map]; exact c1) (by show (ls.map _).length ≤ 40; rw [List.length_map]; exact c2) (fun z hz => ?_) rfl (by show 1 ≤ 1; decide) (by show 1 ≤ 2; decide) (fun g' hg => ?_)
  · obtain ⟨y, hy, rfl⟩ := List.mem_map.mp hz
    have := hS.lights y hy
    have := mul_le this.1 this.2 t1 t2 (by decide)
    exact num_of this.1 this.2
  · rw [List.mem_singleton.mp hg]
    refine ⟨by show (g.days.map (mulD t m)).length = (ls.map _).length; rw [List.length_map, List.length_map, c8], c9, fun d hd => ?_⟩
    obtain ⟨e, he, rfl⟩ := List.mem_map.mp hd
    obtain ⟨h1, h2, h3, h4⟩ := hS.days e he
    have l1 := mul_le h2.1 h2.2 t1 t2 (by decide)
    have l2 := hm e he
    refine day_nums h1 ⟨?_, l2⟩ (mul_le h3.1 h3.2 t1 t2 (by decide)) fun z hz => ?_
    · show 0 ≤ e.loaf * t + m
      omega
    · have hz : e.fine.map (· * t) = some z := hz
      obtain ⟨y, hy, rfl⟩ := Option.map_eq_some_iff.mp hz
      exact mul_le (h4 y hy).1 (h4 y hy).2 t1 t2 (by decide)
theorem ahead_ok {ls : List Int} {g : Good} {d0 d1 d2 : Int} (hb : bakB (bakD ⟨ls, none, [g]⟩) = true) (hS : Sml ls g) (hn : ls.length ≤ 39) (h0 : 0 ≤ d0 ∧ d0 < 9) (h1 : 0 ≤ d1 ∧ d1 < 9) (h2 : 0 ≤ d2 ∧ d2 < 9) : bakB (bakD ⟨(rowF ls 0 + d2) :: ls, none, [aheadG (firstD g d0 d1) g]⟩) = true ∧ ∃ e, g.days[0]? = some e ∧ firstD g d0 d1 = ⟨0, e.loaf + d0, d1, none⟩ := by
  obtain ⟨⟨c1, c2⟩, c3, _, _, c7⟩ := bak_parts hb
  obtain ⟨c8, c9, hok⟩ := c7 g (List.mem_singleton.mpr rfl)
  dsimp only at c1 c2 c3 c8
  obtain ⟨e, es, hes⟩ : ∃ d ds, g.days = d :: ds := by
    cases h : g.days with
    | nil => rw [h] at c8; simp only [List.length_nil] at c8; omega
    | cons d ds => exact ⟨d, ds, rfl⟩
  have hfd : firstD g d0 d1 = ⟨0, e.loaf + d0, d1, none⟩ := by unfold firstD; rw [hes]; rfl
  have he := hS.days e (by rw [hes]; exact List.mem_cons_self)
  have hl0 : 0 ≤ rowF ls 0 ∧ rowF ls 0 ≤ 10 := by
    cases ls with
    | nil => simp only [List.length_nil] at c1; omega
    | cons z r => exact hS.lights z List.mem_cons_self
  refine ⟨bakB_mk (by show 1 ≤ ls.length + 1; omega) (by show ls.length + 1 ≤ 40; omega) (fun z hz => ?_) rfl (by show 1 ≤ 1; decide) (by show 1 ≤ 2; decide) (fun g' hg => ?_), e, by rw [hes]; rfl, hfd⟩
  · rcases List.mem_cons.mp hz with rfl | hz
    · exact num_of (by omega) (by omega)
    · exact c3 z hz
  · rw [List.mem_singleton.mp hg]
    refine ⟨by show g.days.length + 1 = ls.length + 1; omega, c9, fun d hd => ?_⟩
    rcases List.mem_cons.mp hd with rfl | hd
    · rw [hfd]
      exact day_nums ⟨by show (0 : Int) ≤ 0; decide, by show (0 : Int) ≤ 1000000000; decide⟩ ⟨by show 0 ≤ e.loaf + d0; omega, by show e.loaf + d0 ≤ 1000000000; omega⟩ ⟨by show 0 ≤ d1; omega, by show d1 ≤ 1000000000; omega⟩ fun z hz => nomatch hz
    · exact hok d hd
theorem lasts_mul {t m : Int} {g : Good} {ls : List Int} {os : List (Option Nat)} (ht : 0 < t) (h : Lasts g ls os) : Lasts (mulG t m g) (ls.map (· * t)) os := by
  obtain ⟨row, h1, h2⟩ := h.row
  refine ⟨by rw [List.length_map]; exact h.len, fun j => row j * t + m * wsum g 0 j, ?_, fun j o ho => ?_⟩
  · rw [rowF_mul, List.length_map]
    exact row_mul (by omega) h1
  · rw [rowF_mul]
    exact (h2 j o ho).of_iff fun d => (ends_mul ht).symm
theorem wants_sum (g : Good) : ∀ k, ((g.days.map Day.want).take k).sum = wsum g 0 k
  | 0 => rfl
  | k + 1 => by
    show _ = wsum g 0 k + wantN g (0 + k)
    rw [← wants_sum g k, Nat.zero_add, List.take_add_one, List.sum_append]
    congr 1
    rw [List.getElem?_map]
    unfold wantN
    cases g.days[k]? with
    | none => rfl
    | some d => show d.want + 0 = d.want; omega
theorem ne_told {H : Hp} {a b p q : Addr} {m : Nat} {l : List Nat} {Q : VK} (h1 : H a = some (.tup [.int (m : Int), .ref p])) (h2 : H p = some (.lst (l.map natI))) (h3 : H b = some (.tup [.int (m : Int), .ref q])) (h4 : H q = some (.lst (l.map natI))) (z : Q (.bl false) H) : rNeD K (.ref a) (.ref b) H Q := by
  rw [natI_map] at h2 h4
  have k : ∀ x y : Addr, H x = some (.tup [.int (m : Int), .ref y]) → H y = some (.lst ((l.map fun (n : Nat) => (n : Int)).map V.int)) → Dp K H (.ref x) (.tuple [.int (m : Int), .list ((l.map fun (n : Nat) => (n : Int)).map PyData.int)]) := fun x y e1 e2 => .tup (SqT.of e1) (.cons (.int _) (.cons (.lst (SqL.of e2) (dp_ints _)) .nil))
  have sh : SeqAt.shaped (.tuple [.int (m : Int), .list ((l.map fun (n : Nat) => (n : Int)).map PyData.int)]) = true := by
    simp only [SeqAt.shaped, PyData.canLay0, PyData.canLayAll0, lay_ints, PyData.depth, PyData.depthAll, depth_ints, Bool.true_and, Bool.and_true]
    decide
  refine ⟨_, _, k a p h1 h2, k b q h3 h4, sh, sh, ?_⟩
  rw [SeqAt.eqv_refl _ (by simp only [PyData.canLay0, PyData.canLayAll0, lay_ints, Bool.and_self])]
  exact z
theorem lc_mul {pr D : Addr} {rs : List Int} {f0 : Int} {v0 v1 v2 v4 v5 v6 v7 v8 : V} {y9 y10 : Option V} {H1 : Hp} {Qd : Hp → Prop} (h : H1 pr = some (.lst (rs.map V.int))) (hl : rs.length ≤ 1000) (b1 : 0 ≤ f0) (b2 : f0 ≤ 1000000000) (hD : H1 D = none) (hq : ∀ H, Same H1 H → H D = some (.lst ((rs.map (· * f0)).map V.int)) → Qd H) :
    LcR (Itl K pr) (gName 11) tYes (tOp (rI CMul fun i j => V.int (i * j)) (tVar 11) (tVar 3)) [11] [some v0, some v1, some v2, some (.int f0), some v4, some v5, some v6, some v7, some v8, y9, y10, none, none, none] D H1 Qd := by
  refine LcR.map (walk_list (xs := rs.map V.int)) ((rs.map (· * f0)).map V.int) hD (by rw [List.length_map, List.length_map, List.length_map]) (by rw [List.length_map]; omega) (fun H' s => s.seq (SqL.of h)) (fun _ _ _ _ y => yat_same y) (fun k v y H0 H9 hk s9 yy hy R hR2 => ?_) (fun H9 s9 hH9 => hq H9 s9 hH9)
  obtain ⟨rfl, hx⟩ := yy
  rw [List.length_map] at hk
  have hz : rs[k]? = some rs[k] := List.getElem?_eq_getElem hk
  generalize rs[k] = z at hz
  rw [List.getElem?_map, hz] at hx
  cases hx
  rw [List.getElem?_map, List.getElem?_map, hz] at hy
  cases hy
  walk_at "wp"
  exact ⟨.inr ⟨by omega, by omega⟩, hR2 _ (Same.refl _)⟩
theorem facts_of {ls : List Int} {g : Good} {ps : List Int} (hb : bakB (bakD ⟨ls, none, [g]⟩) = true) (hP : IsPrices g (rowF ls) ps ls.length) : Lets g (rowF ls) (rowF ps) ls.length ∧ (∀ k, k < ls.length → wantN g k = 0 → rowF ps k = 0) ∧ ∀ row, IsRow g (rowF ls) row ls.length → ps.sum = row ls.length := by
  obtain ⟨⟨c1, c2⟩, c3, _, _, c7⟩ := bak_parts hb
  obtain ⟨c8, c9, hok⟩ := c7 g (List.mem_singleton.mpr rfl)
  dsimp only at c1 c2 c3 c8
  have nb : ∀ b, 0 ≤ rowF ls b ∧ rowF ls b ≤ 1000000000 := fun b => by
    unfold rowF
    rw [List.getD_eq_getElem?_getD]
    cases e : ls[b]? with
    | none => simp
    | some z =>
      have := c3 z (List.mem_of_getElem? e)
      simp only [numD, Bool.and_eq_true, decide_eq_true_eq] at this
      exact this
  obtain ⟨g1, g2, g3, g4⟩ := hP.facts (by omega) (fun b => (nb b).1) (fun b => (nb b).2) hok (life_ok c9)
  exact ⟨g1, g2, g3⟩
def spLaw (K : PySem.W.Frag) : Sp := fun vs H Q _ => ∃ (a : Addr) (ns : List Int), vs = [.ref a] ∧ SqL K H a (ns.map V.int) ∧ ns.length ≤ 63 ∧ ∀ H', Q (.bl true) H'
theorem ok_law {f : Addr} {fd : FuncData} (F : Fun K "law" "law" s_law f fd) (B : Bi mg) (D_bakery : Def P w K mg base "_law_bakery" 3 ["_law_script", "_law_upto", "_law_salt"] (spBakery K)) (D_small : Def P w K mg base "_law_small" 1 ["_law_bakery_here"] (spSmall K)) (D_cell_at : Def P w K mg base "_law_cell_at" 1 ["_law_script", "_law_k"] (spCellAt K)) (D_numbers : Def P w K mg base "_law_numbers" 1 ["_law_cell", "_law_salt", "_law_sizes"] (spNumbers K)) (D_least_row : Def P w K mg base "least_row" 9 ["bakery"] (spRow K)) (D_prices_of : Def P w K mg base "prices_of" 9 ["bakery"] (spPrices K)) (D_turned : Def P w K mg base "_law_turned" 1 ["_law_bakery_here", "_law_times", "_law_more"] (spTurned K)) (D_lets_prices : Def P w K mg base "lets_prices" 9 ["bakery", "thing"] (spLetsP K))
    (D_cost_of : Def P w K mg base "cost_of" 7 ["bakery", "plan"] (spCostOf K)) (D_cheapest : Def P w K mg base "cheapest" 10 ["bakery"] (spCheap K)) (D_is_steady : Def P w K mg base "is_steady" 8 ["bakery"] (spIsSt K)) (D_settled : Def P w K mg base "settled" 11 ["bakery"] (spSettled K)) (D_ahead : Def P w K mg base "_law_ahead" 1 ["_law_bakery_here", "_law_digits"] (spAhead K)) : FnOk P w K mg base CX0 12 f fd ["_law_script"] (spLaw K) := by
  refine F.ok sc_law (fun vs H Q E h => ?_) (fun cdv A outer s H vs Q E hr h => ?_)
  · obtain ⟨a, ns, rfl, _⟩ := h
    rfl
  · obtain ⟨a, ns, rfl, hS, hlen, q⟩ := h
    refine ⟨_, (pss_cons (ps_set (i := 1) sc_law.nd rfl (Or.inl rfl) (pe_callD D_small hr (by rfl) (pa_cons (pe_callD D_bakery hr (by rfl) (pa_cons (pv 0) (pa_cons pe_int (pa_cons pe_int pa_nil)))) pa_nil)))
 (pss_cons (ps_set (i := 2) sc_law.nd rfl (Or.inl rfl) (pe_callD D_numbers hr (by rfl) (pa_cons (pe_callD D_cell_at hr (by rfl) (pa_cons (pv 0) (pa_cons pe_int pa_nil))) (pa_cons pe_int (pa_cons (pe_lst (pa_cons (pe_op op_pow pe_int pe_int) (pa_cons (pe_op op_pow pe_int pe_int) (pa_cons pe_int (pa_cons pe_int (pa_cons pe_int pa_nil)))))) pa_nil)))))
 (pss_cons (ps_set (i := 3) sc_law.nd rfl (Or.inr rfl) (pe_ix ix_list (pv 2) pe_int (fun _ _ => rfl)))
 (pss_cons (ps_set (i := 4) sc_law.nd rfl (Or.inr rfl) (pe_ix ix_list (pv 2) pe_int (fun _ _ => rfl)))
 (pss_cons (ps_set (i := 5) sc_law.nd rfl (Or.inr rfl) (pe_callD D_least_row hr (by rfl) (pa_cons (pv 1) pa_nil)))
 (pss_cons (ps_set (i := 6) sc_law.nd rfl (Or.inl rfl) (pe_callD D_prices_of hr (by rfl) (pa_cons (pv 1) pa_nil)))
 (pss_cons (ps_set (i := 7) sc_law.nd rfl (Or.inl rfl) (pe_callD D_turned hr (by rfl) (pa_cons (pv 1) (pa_cons (pv 3) (pa_cons pe_int pa_nil)))))
 (pss_cons (ps_set (i := 8) sc_law.nd rfl (Or.inl rfl) (pe_callD D_turned hr (by rfl) (pa_cons (pv 1) (pa_cons pe_int (pa_cons (pv 4) pa_nil)))))
 (pss_cons (ps_if (PW.pt (pw_or (pt_cmpR (op_neD hr.units) (pe_callD D_least_row hr (by rfl) (pa_cons (pv 7) pa_nil)) (pe_lc (own := [("_law_one", 11)]) (g := (gName 11)) rfl sc_law.nd (pi_list (pv 5)) (blkOk_by (own := [("_law_one", 11)]) (N := ["_law_script", "_law_bakery_here", "_law_digits", "_law_times", "_law_more", "_law_row", "_law_prices", "_law_greater", "_law_dearer", "_law_wants", "_law_later", "_law_one", "_law_day_here", "_law_many"]) (sc := defScope s_law) (by decide +kernel)) (fun _ _ _ _ _ => (pg_name (i := 11) sc_law.nd rfl (Or.inl rfl))) (fun _ _ _ _ _ => pts_nil) (fun _ _ _ _ _ => (pe_op op_mul (pv 11) (pv 3)))) (nomark _)) (pw_or1 (pt_cmpR op_ne (pe_callB (cr_sum rfl) (by rfl) B.sum (by decide +kernel) (pa_cons (pe_callD D_prices_of hr (by rfl) (pa_cons (pv 7) pa_nil)) pa_nil)) (pe_op op_mul (pv 3) (pe_callB (cr_sum rfl) (by rfl) B.sum (by decide +kernel) (pa_cons (pv 6) pa_nil))) (nomark _))))) (pss_one (ps_ret pe_bl)) pss_nil)
 (pss_cons (ps_if (pt_not (pt_val (pe_callD D_lets_prices hr (by rfl) (pa_cons (pv 7) (pa_cons (pe_lc (own := [("_law_one", 11)]) (g := (gName 11)) rfl sc_law.nd (pi_list (pv 6)) (blkOk_by (own := [("_law_one", 11)]) (N := ["_law_script", "_law_bakery_here", "_law_digits", "_law_times", "_law_more", "_law_row", "_law_prices", "_law_greater", "_law_dearer", "_law_wants", "_law_later", "_law_one", "_law_day_here", "_law_many"]) (sc := defScope s_law) (by decide +kernel)) (fun _ _ _ _ _ => (pg_name (i := 11) sc_law.nd rfl (Or.inl rfl))) (fun _ _ _ _ _ => pts_nil) (fun _ _ _ _ _ => (pe_op op_mul (pv 11) (pv 3)))) pa_nil))))) (pss_one (ps_ret pe_bl)) pss_nil)
 (pss_cons (ps_if (pt_cmpR op_ne (pe_callD D_cost_of hr (by rfl) (pa_cons (pv 7) (pa_cons (pe_callD D_cheapest hr (by rfl) (pa_cons (pv 7) pa_nil)) pa_nil))) (pe_op op_mul (pv 3) (pe_callD D_cost_of hr (by rfl) (pa_cons (pv 1) (pa_cons (pe_callD D_cheapest hr (by rfl) (pa_cons (pv 1) pa_nil)) pa_nil)))) (nomark _)) (pss_one (ps_ret pe_bl)) pss_nil)
 (pss_cons (ps_set (i := 9) sc_law.nd rfl (Or.inr rfl) (pe_lc (own := [("_law_day_here", 12)]) (g := (gName 12)) (te := (tOp (rIxT K) _ _)) rfl sc_law.nd (pi_list (pe_ix ix_tup (pe_ix ix_list (pe_ix ix_tup (pv 1) pe_int (fun _ _ => rfl)) pe_int (fun _ _ => rfl)) pe_int (fun _ _ => rfl))) (blkOk_by (own := [("_law_day_here", 12)]) (N := ["_law_script", "_law_bakery_here", "_law_digits", "_law_times", "_law_more", "_law_row", "_law_prices", "_law_greater", "_law_dearer", "_law_wants", "_law_later", "_law_one", "_law_day_here", "_law_many"]) (sc := defScope s_law) (by decide +kernel)) (fun _ _ _ _ _ => (pg_name (i := 12) sc_law.nd rfl (Or.inl rfl))) (fun _ _ _ _ _ => pts_nil) (fun _ _ _ _ _ => (pe_ix ix_tup (pv 12) pe_int (fun _ _ => rfl)))))
 (pss_cons (ps_if (pt_cmpR (op_neD hr.units) (pe_callD D_least_row hr (by rfl) (pa_cons (pv 8) pa_nil)) (pe_lc (own := [("_law_many", 13)]) (g := (gName 13)) (te := (tOp _ (tOp (rIxL K) _ _) (tOp _ _ (tCB (rSum K) (tCons (tSl (rSlL K) _ _ _) tNil))))) rfl sc_law.nd (pi_range1 (by rfl) B.range (pa_cons (pe_callB call_lnL (by rfl) B.len (by decide +kernel) (pa_cons (pv 5) pa_nil)) pa_nil)) (blkOk_by (own := [("_law_many", 13)]) (N := ["_law_script", "_law_bakery_here", "_law_digits", "_law_times", "_law_more", "_law_row", "_law_prices", "_law_greater", "_law_dearer", "_law_wants", "_law_later", "_law_one", "_law_day_here", "_law_many"]) (sc := defScope s_law) (by decide +kernel)) (fun _ _ _ _ _ => (pg_name (i := 13) sc_law.nd rfl (Or.inl rfl))) (fun _ _ _ _ _ => pts_nil) (fun _ _ _ _ _ => (pe_op op_add (pe_ix ix_list (pv 5) (pv 13) (fun _ _ => rfl)) (pe_op op_mul (pv 4) (pe_callB (cr_sum rfl) (by rfl) B.sum (by decide +kernel) (pa_cons (pe_slice sl_list (pv 9) po_none (po_some (pv 13))) pa_nil)))))) (nomark _)) (pss_one (ps_ret pe_bl)) pss_nil)
 (pss_cons (ps_if (PW.pt (pw_and (pt_val (pe_callD D_is_steady hr (by rfl) (pa_cons (pv 1) pa_nil))) (pw_and1 (pt_cmpR op_gt (pv 3) pe_int (nomark _))))) (pss_one (ps_if (PW.pt (pw_or (pt_cmpR (op_neD hr.units) (pe_callD D_settled hr (by rfl) (pa_cons (pv 7) pa_nil)) (pe_callD D_settled hr (by rfl) (pa_cons (pv 1) pa_nil)) (nomark _)) (pw_or1 (pt_cmpR (op_neD hr.units) (pe_callD D_settled hr (by rfl) (pa_cons (pv 8) pa_nil)) (pe_callD D_settled hr (by rfl) (pa_cons (pv 1) pa_nil)) (nomark _))))) (pss_one (ps_ret pe_bl)) pss_nil)) pss_nil)
 (pss_cons (ps_set (i := 10) sc_law.nd rfl (Or.inl rfl) (pe_callD D_ahead hr (by rfl) (pa_cons (pv 1) (pa_cons (pe_slice sl_list (pv 2) (po_some pe_int) po_none) pa_nil))))
 (pss_one (ps_ret (pe_cmpR (op_eqD hr.units) (pe_callD D_least_row hr (by rfl) (pa_cons (pv 10) pa_nil)) (pe_op op_catL (pe_lst (pa_cons pe_int pa_nil)) (pv 5)) (nomark _))))))))))))))))))), ?_⟩
    walk_at "wp"
    refine ⟨a, ns, 16, 8600, rfl, hS, hlen, by decide, by decide, by decide, fun H1 x0 ls0 g0 S1 hx0 hb0 hll => ?_⟩
    have hx01 := (hx0.same (newOf_same _ _)).th (K := K)
    refine ⟨_, ls0, g0, rfl, hx01, hb0, fun H2 x S2 hx => ?_⟩
    obtain ⟨hb, hSm⟩ := small_ok hb0
    have hn0 : ls0.length ≤ 39 := by rw [hll]; unfold nDays; omega
    generalize hls : ls0.map (· % 11) = ls at hx hb hSm
    generalize hgg : smallG g0 = g at hx hb hSm
    have hn : ls.length ≤ 39 := by rw [← hls, List.length_map]; exact hn0
    clear hls hgg hx0 hx01 hb0 hll hn0
    obtain ⟨⟨c1, c2⟩, c3, _, _, c7⟩ := bak_parts hb
    obtain ⟨c8, c9, hok⟩ := c7 g (List.mem_singleton.mpr rfl)
    dsimp only at c1 c2 c3 c8
    have N := nonNegW_of hok
    have nn : ∀ b, 0 ≤ rowF ls b := rowF_nonneg fun z hz => (hSm.lights z hz).1
    have nu : ∀ b, rowF ls b ≤ 1000000000 := fun b => by
      unfold rowF
      rw [List.getD_eq_getElem?_getD]
      cases e : ls[b]? with
      | none => simp
      | some z =>
        have := (hSm.lights z (List.mem_of_getElem? e)).2
        show z ≤ 1000000000
        omega
    walk_at "wp"
    refine ⟨a, ns, 0, rfl, (S1.trans S2).seq hS, fun c => ?_⟩
    walk_at "wp"
    refine ⟨⟨by decide, by decide⟩, ⟨by decide, by decide⟩, sz100 (by decide), fun r1 k1 => ?_⟩
    have Q4 := same_upd (o := .lst [V.int (10 ^ Int.toNat 8), V.int (10 ^ Int.toNat 8), V.int 9, V.int 9, V.int 9]) k1
    refine ⟨c, 8690, r1, [100000000, 100000000, 9, 9, 9], rfl, SqL.of upd_same, by decide, by decide, by decide, by decide, fun H3 pd fs S3 hpd hD hfs => ?_⟩
    have S23 := Q4.trans S3
    clear S3 Q4 hpd
    obtain ⟨f0, f1, f2, f3, f4, rfl⟩ : ∃ f0 f1 f2 f3 f4 : Int, fs = [f0, f1, f2, f3, f4] := by
      match fs, hD.1 with
      | [f0, f1, f2, f3, f4], _ => exact ⟨_, _, _, _, _, rfl⟩
    have b0 := hD.2 0 f0 _ rfl rfl
    have b1 := hD.2 1 f1 _ rfl rfl
    have b2 := hD.2 2 f2 _ rfl rfl
    have b3 := hD.2 3 f3 _ rfl rfl
    have b4 := hD.2 4 f4 _ rfl rfl
    have hbG : bakB (bakD ⟨ls.map (· * f0), none, [mulG f0 0 g]⟩) = true := mul_ok hb hSm b0.1 (by omega) (by decide) fun d hd => by
      have := mul_le (hSm.days d hd).2.1.1 (hSm.days d hd).2.1.2 b0.1 (show f0 ≤ 100000000 by omega) (by decide)
      omega
    have hbE : bakB (bakD ⟨ls.map (· * 1), none, [mulG 1 f1 g]⟩) = true := mul_ok hb hSm (by decide) (by decide) b1.1 fun d hd => by
      have := (hSm.days d hd).2.1
      omega
    walk_at "wp"
    refine ⟨_, _, SqL.of hfs, atI_nat (j := 0) rfl, _, _, SqL.of hfs, atI_nat (j := 1) rfl, ?_⟩
    refine ⟨_, ls, g, rfl, hx.same S23, hb, fun H4 pr rs S4 _ hpr hrl hR => ?_⟩
    walk_at "wp"
    refine ⟨_, ls, g, rfl, hx.same (S23.trans S4), hb, fun H5 pp ps S5 _ hpp hP => ?_⟩
    obtain ⟨g1, g2, g3⟩ := facts_of hb hP
    walk_at "wp"
    have S25 := S23.trans (S4.trans S5)
    refine ⟨_, ls, g, f0, 0, rfl, hx.same S25, hb, b0.1, by omega, fun H6 yG S6 hyG => ?_⟩
    walk_at "wp"
    have S26 := S25.trans S6
    refine ⟨_, ls, g, 1, f1, rfl, hx.same S26, hb, by decide, by decide, fun H7 yE S7 hyE => ?_⟩
    have S27 := S26.trans S7
    have hyG7 := hyG.same S7
    have hx7 := hx.same S27
    have hpr7 := (S5.trans (S6.trans S7)) _ _ hpr
    have hpp7 := (S6.trans S7) _ _ hpp
    have hfs7 := (S4.trans (S5.trans (S6.trans S7))) _ _ hfs
    have rowG := row_mul (t := f0) (m := 0) b0.1 hR
    have rowE := row_mul (t := 1) (m := f1) (by decide) hR
    clear hyG
    walk_at "wp"
    refine ⟨_, _, _, rfl, hyG7, hbG, fun H8 p8 rs8 S8 _ hp8 hl8 hR8 => ?_⟩
    have rowG' : IsRow (mulG f0 0 g) (rowF (ls.map (· * f0))) (fun j => rowF rs j * f0 + 0 * wsum g 0 j) (ls.map (· * f0)).length := by
      rw [rowF_mul, List.length_map]
      exact rowG
    have rowE' : IsRow (mulG 1 f1 g) (rowF (ls.map (· * 1))) (fun j => rowF rs j * 1 + f1 * wsum g 0 j) (ls.map (· * 1)).length := by
      rw [rowF_mul, List.length_map]
      exact rowE
    rw [List.length_map] at hl8
    have e8 : rs8 = rs.map (· * f0) := ints_eq (by rw [hl8, List.length_map, hrl]) fun k hk => by
      have := hR8.ext rowG' k (by rw [List.length_map]; omega)
      rw [rowF_mul]
      dsimp only at this ⊢
      rw [this, Int.zero_mul, Int.add_zero]
    subst e8
    refine ⟨⟨_, SqL.of (S8 _ _ hpr7)⟩, fun D hD => lc_mul (S8 _ _ hpr7) (by omega) b0.1 (by omega) hD fun H9 S9 hH9 => ?_⟩
    refine ne_intsK (SqL.of (S9 _ _ hp8)) (SqL.of hH9) ⟨false, rfl, ?_⟩
    rw [if_neg (by decide)]
    have S79 := S8.trans S9
    refine ⟨_, _, _, rfl, hyG7.same S79, hbG, fun HA pA psA SA _ hpA hPA => ?_⟩
    obtain ⟨_, _, gA⟩ := facts_of hbG hPA
    have S7A := S79.trans SA
    walk_at "wp"
    have sA := gA _ rowG'
    have s0 := g3 _ hR
    have hsum : psA.sum = f0 * ps.sum := by
      rw [sA, s0, List.length_map, Int.zero_mul, Int.add_zero, Int.mul_comm]
    refine ⟨psA, SqL.of hpA, ps, SqL.of (S7A _ _ hpp7), .inl ⟨by omega, by omega⟩, ?_⟩
    rw [hsum, decide_eq_true rfl]
    walk_at "wp"
    refine ⟨⟨_, SqL.of (S7A _ _ hpp7)⟩, fun D2 hD2 => lc_mul (S7A _ _ hpp7) (by rw [hP.len]; omega) b0.1 (by omega) hD2 fun HB SB hHB => ?_⟩
    have S7B := S7A.trans SB
    refine ⟨_, _, _, _, _, rfl, hyG7.same S7B, hbG, .lst (SqL.of hHB) (.ints _), fun HC rC SC hrC => ?_⟩
    have erC := hrC.mpr ⟨ps.map (· * f0), ⟨rfl, by rw [List.length_map, List.length_map]; exact hP.len, fun k hk hw => by
      rw [List.length_map] at hk
      rw [wantN_mul] at hw
      rw [rowF_mul]
      dsimp only
      rw [g2 k hk hw, Int.zero_mul]⟩, by
      rw [rowF_mul, rowF_mul, List.length_map]
      exact lets_mul b0.1 g1⟩
    subst erC
    have S7C := S7B.trans SC
    walk_at "wp"
    refine ⟨_, _, _, rfl, hyG7.same S7C, hbG, fun HD pD esD SD _ hPD hCD _ => ?_⟩
    have S7D := S7C.trans SD
    refine ⟨_, _, _, pD, esD, _, rfl, hyG7.same S7D, hbG, hPD, rowG', (hCD _ rowG').1, fun HE SE => ?_⟩
    have S7E := S7D.trans SE
    refine ⟨_, ls, g, rfl, hx7.same S7E, hb, fun HF pF esF SF _ hPF hCF _ => ?_⟩
    have S7F := S7E.trans SF
    refine ⟨_, ls, g, pF, esF, _, rfl, hx7.same S7F, hb, hPF, hR, (hCF _ hR).1, fun HG SG => ?_⟩
    have S7G := S7F.trans SG
    walk_at "wp"
    have hcst : rowF rs (ls.map (· * f0)).length * f0 + 0 * wsum g 0 (ls.map (· * f0)).length = f0 * rowF rs ls.length := by rw [List.length_map, Int.zero_mul, Int.add_zero, Int.mul_comm]
    refine ⟨.inl ⟨by omega, by omega⟩, ?_⟩
    rw [hcst, decide_eq_true rfl]
    obtain ⟨ab, l, v2, ga, xl, xg, rfl, ht, hl, hla, h2, hgl, hga⟩ := Th.bak (hx7.same S7G)
    obtain ⟨vg, hv, hvg⟩ := hga.get' (i := 0) (d := goodD g) rfl
    obtain ⟨tg, ad, xs, rfl, htg, hsg, hag⟩ := hvg.good
    have hxs := hag.length
    rw [List.length_map] at hxs
    walk_at "wp"
    refine ⟨_, _, ht, atI_nat (j := 2) rfl, ?_⟩
    walk_at "wp"
    refine ⟨_, _, hgl, atI_nat (j := 0) hv, ?_⟩
    walk_at "wp"
    refine ⟨_, _, htg, atI_nat (j := 0) rfl, ?_⟩
    walk_at "wp"
    refine ⟨⟨_, hsg⟩, fun D3 hD3 => ?_⟩
    refine LcR.map (walk_list (xs := xs)) ((g.days.map Day.want).map V.int) hD3 (by rw [List.length_map, List.length_map, hxs]) (by omega) (fun H' s => s.seq hsg) (fun _ _ _ _ y => yat_same y) (fun k v y H0 HH hk sH yy hy R hR2 => ?_) (fun HH SH hHH => ?_)
    · obtain ⟨rfl, hxk⟩ := yy
      have hd : g.days[k]? = some g.days[k] := List.getElem?_eq_getElem (by omega)
      generalize g.days[k] = d at hd
      obtain ⟨vd, hvd, hvdd⟩ := hag.get' (i := k) (d := dayD d) (by rw [List.getElem?_map, hd]; rfl)
      rw [hxk] at hvd
      cases hvd
      obtain ⟨td, rfl, htd⟩ := hvdd.day
      rw [List.getElem?_map, List.getElem?_map, hd] at hy
      cases hy
      walk_at "wp"
      exact ⟨_, _, Same.tup sH htd, atI_nat (j := 0) rfl, hR2 _ (Same.refl _)⟩
    have S7H := S7G.trans SH
    refine ⟨_, _, _, rfl, hyE.same S7H, hbE, fun HI pI rsI SI _ hpI hlI hRI => ?_⟩
    rw [List.length_map] at hlI
    have S7I := S7H.trans SI
    have eI : rsI = (List.range (ls.length + 1)).map fun k => rowF rs k + f1 * wsum g 0 k := ints_eq (by rw [hlI, List.length_map, List.length_range]) fun k hk => by
      have := hRI.ext rowE' k (by rw [List.length_map]; omega)
      rw [this, Int.mul_one]
      unfold rowF
      rw [List.getD_eq_getElem?_getD (l := (List.range (ls.length + 1)).map _), List.getElem?_map, List.getElem?_range (by omega)]
      rfl
    subst eI
    have hprI := S7I _ _ hpr7
    have hrsl : (rs.map V.int).length = ls.length + 1 := by rw [List.length_map, hrl]
    refine ⟨_, SqL.of hprI, by omega, by omega, fun D4 hD4 => ?_⟩
    rw [hrsl, show ((ls.length + 1 : Nat) : Int).toNat = ls.length + 1 by omega]
    refine LcR.map walk_range (((List.range (ls.length + 1)).map fun k => rowF rs k + f1 * wsum g 0 k).map V.int) hD4 (by rw [List.length_map, List.length_map, List.length_range]) (by omega) (fun _ _ => trivial) (fun _ _ _ _ y => yfn_same y) (fun k v y H0 HJ hk sJ yy hy R hR2 => ?_) (fun HJ SJ hHJ => ?_)
    · obtain ⟨rfl, rfl⟩ := yy
      rw [List.getElem?_map, List.getElem?_map, List.getElem?_range hk] at hy
      cases hy
      walk_at "wp"
      refine ⟨_, _, SqL.of (sJ _ _ hprI), atI_nat (rowF_get (by omega)), ?_⟩
      walk_at "wp"
      refine ⟨_, SqL.of ((SI.trans sJ) _ _ hHH), fun pw nw => ?_⟩
      rw [cutV_upto, ← List.map_take]
      refine ⟨_, SqL.of upd_same, .inl ⟨by omega, by omega⟩, ?_⟩
      rw [wants_sum]
      exact hR2 _ (same_upd nw)
    refine ne_intsK (SqL.of (SJ _ _ hpI)) (SqL.of hHJ) ⟨false, rfl, ?_⟩
    rw [if_neg (by decide)]
    have S7J := S7I.trans SJ
    refine ⟨_, ls, g, rfl, hx7.same S7J, hb, fun HK rK SK hrK => ⟨rK, rfl, ?_⟩⟩
    have S7K := S7J.trans SK
    have fin : ∀ H', Same H7 H' → ∃ xs, SqL K H' pd xs ∧ ∀ (p : Addr), H' p = none → spAhead K [V.ref ab, V.ref p] (upd H' p (HO.lst (cutV xs (some 2) none))) (fun x H1 => spRow K [x] H1 (fun x H1 => 0 + 1 ≤ sizeLine ∧ ∀ (p : Addr), H1 p = none → ∃ xs zs, SqL K (upd H1 p (HO.lst [V.int 0])) p xs ∧ SqL K (upd H1 p (HO.lst [V.int 0])) pr zs ∧ xs.length + zs.length ≤ sizeLine ∧ ∀ (p_1 : Addr), upd H1 p (HO.lst [V.int 0]) p_1 = none → rEqD K x (V.ref p_1) (upd (upd H1 p (HO.lst [V.int 0])) p_1 (HO.lst (xs ++ zs))) Q) E0) E0 := fun H' S' => by
      refine ⟨_, SqL.of (S' _ _ hfs7), fun p1 n1 => ?_⟩
      rw [show cutV ([f0, f1, f2, f3, f4].map V.int) (some 2) none = [V.int f2, V.int f3, V.int f4] from cutV_from _ 2]
      have T1 := same_upd (o := .lst [V.int f2, V.int f3, V.int f4]) n1
      refine ⟨_, ls, g, p1, f2, f3, f4, rfl, hx7.same (S'.trans T1), hb, SqL.of upd_same, fun HL yL SL hyL => ?_⟩
      obtain ⟨hbA, e, he, hfd⟩ := ahead_ok hb hSm hn ⟨b2.1, b2.2⟩ ⟨b3.1, b3.2⟩ ⟨b4.1, b4.2⟩
      have N' : NonNegW (aheadG (firstD g f2 f3) g).days := by
        obtain ⟨_, _, _, _, k7⟩ := bak_parts hbA
        exact nonNegW_of (k7 _ (List.mem_singleton.mpr rfl)).2.2
      have rowA : IsRow (aheadG (firstD g f2 f3) g) (rowF ((rowF ls 0 + f4) :: ls)) (shiftF 0 (rowF rs)) (ls.length + 1) := by
        rw [rowF_cons]
        exact row_ahead he (by rw [hfd]) (by rw [hfd]; show e.loaf ≤ e.loaf + f2; omega) (by rw [hfd]; exact b3.1) (by omega) (nn 0) nn N N' hR
      refine ⟨_, _, _, rfl, hyL, hbA, fun HM pM rsM SM _ hpM hlM hRM => ?_⟩
      have eM : rsM = 0 :: rs := ints_eq (by rw [hlM, List.length_cons, List.length_cons, hrl]) fun k hk => by
        rw [hlM, List.length_cons] at hk
        have := hRM.ext rowA k (by rw [List.length_cons]; omega)
        rw [this, rowF_cons]
      subst eM
      refine ⟨sz100 (by decide), fun p2 n2 => ?_⟩
      have T2 := same_upd (o := .lst [V.int 0]) n2
      have E2 : upd HM p2 (.lst [V.int 0]) p2 = some (.lst [V.int 0]) := upd_same
      generalize upd HM p2 (.lst [V.int 0]) = HN at T2 E2 ⊢
      refine ⟨_, _, SqL.of E2, SqL.of ((S'.trans (T1.trans (SL.trans (SM.trans T2)))) _ _ hpr7), sz100 (by show 1 + (rs.map V.int).length ≤ 100000; omega), fun p3 n3 => ?_⟩
      exact eq_ints (ns := 0 :: rs) (SqL.of ((T2.trans (same_upd n3)) _ _ hpM)) (SqL.of upd_same) (q _)
    cases rK with
    | false =>
      rw [if_neg (by decide)]
      exact fin _ S7K
    | true =>
      rw [if_pos rfl]
      have hSt := hrK.mp rfl
      by_cases hp : 0 < f0
      · rw [if_pos (decide_eq_true hp)]
        have two : ∀ (t m : Int) (y : V) (H' : Hp) (R : VK), 0 < t → Same H7 H' → Th K H' y (bakD ⟨ls.map (· * t), none, [mulG t m g]⟩) → bakB (bakD ⟨ls.map (· * t), none, [mulG t m g]⟩) = true → (∀ H'', Same H7 H'' → R (.bl false) H'') → spSettled K [y] H' (fun x H1 => spSettled K [V.ref ab] H1 (fun z H2 => rNeD K x z H2 R) E0) E0 := fun t m y H' R ht S' hy hby hR' => by
          refine ⟨_, _, _, rfl, hy, hby, steady_mul (by omega) hSt, fun HL t1 q1 m1 os1 SL _ _ _ ht1 hq1 hLs1 hM1 _ => ?_⟩
          refine ⟨_, ls, g, rfl, hx7.same (S'.trans SL), hb, hSt, fun HM t2 q2 m2 os2 SM _ _ _ ht2 hq2 hLs2 hM2 _ => ?_⟩
          have eo := hLs1.uniq (lasts_mul ht hLs2)
          subst eo
          rw [List.length_map] at hM1
          have em := hM1.uniq hM2
          subst em
          exact ne_told (SM _ _ ht1) (SM _ _ hq1) ht2 hq2 (hR' _ (S'.trans (SL.trans SM)))
        refine two f0 0 yG HK _ hp S7K (hyG7.same S7K) hbG fun HL SL => ⟨false, rfl, ?_⟩
        rw [if_neg (by decide)]
        refine two 1 f1 yE HL _ (by decide) SL (hyE.same SL) hbE fun HM SM => ⟨false, rfl, ?_⟩
        rw [if_neg (by decide)]
        exact fin _ SM
      · rw [if_neg (fun z => hp (of_decide_eq_true z))]
        exact fin _ S7K
end
end Bk

namespace Bk
open PySem PySem.Spec PyProof.Rows L2
theorem all_mk {l : PySem.W.OpenLaw} {w : World} {K : PySem.W.Frag} {h : Heap} {mg : Str → Option Value} {fa f1 f2 f3 f4 f5 f6 f7 f8 f9 f10 f11 f12 f13 f14 f15 f16 f17 f18 f19 f20 f21 f22 f23 f24 f25 f26 f27 f28 f29 f30 f31 f32 f33 f34 f35 f36 f37 f38 f39 f40 f41 f42 f43 f44 f45 f46 f47 f48 f49 f50 f51 f52 f53 f54 : Addr} (X : K.In h) (G : h.Ns mainGlobals mg) (hfa : mg "law" = some (.ref fa))
    {od1 an1 od2 an2 od3 an3 od4 an4 od5 an5 od6 an6 od7 an7 od8 an8 od9 an9 od10 an10 od11 an11 od12 an12 od13 an13 od14 an14 od15 an15 od16 an16 od17 an17 od18 an18 od19 an19 od20 an20 od21 an21 od22 an22 od23 an23 od24 an24 od25 an25 od26 an26 od27 an27 od28 an28 od29 an29 od30 an30 od31 an31 od32 an32 od33 an33 od34 an34 od35 an35 od36 an36 od37 an37 od38 an38 od39 an39 od40 an40 od41 an41 od42 an42 od43 an43 od44 an44 od45 an45 od46 an46 od47 an47 od48 an48 od49 an49 od50 an50 od51 an51 od52 an52 od53 an53 od54 an54 : Option Addr} {sl1 sl2 sl3 sl4 sl5 sl6 sl7 sl8 sl9 sl10 sl11 sl12 sl13 sl14 sl15 sl16 sl17 sl18 sl19 sl20 sl21 sl22 sl23 sl24 sl25 sl26 sl27 sl28 sl29 sl30 sl31 sl32 sl33 sl34 sl35 sl36 sl37 sl38 sl39 sl40 sl41 sl42 sl43 sl44 sl45 sl46 sl47 sl48 sl49 sl50 sl51 sl52 sl53 sl54 : Array (Option Value)} {oc1 kV1 dc1 pm1 cd1 ct1 oc2 kV2 dc2 pm2 cd2 ct2 oc3 kV3 dc3 pm3 cd3 ct3 oc4 kV4 dc4 pm4 cd4 ct4 oc5 kV5 dc5 pm5 cd5 ct5 oc6 kV6 dc6 pm6 cd6 ct6 oc7 kV7 dc7 pm7 cd7 ct7 oc8 kV8 dc8 pm8 cd8 ct8 oc9 kV9 dc9 pm9 cd9 ct9 oc10 kV10 dc10 pm10 cd10 ct10 oc11 kV11 dc11 pm11 cd11 ct11 oc12 kV12 dc12 pm12 cd12 ct12 oc13 kV13 dc13 pm13 cd13 ct13 oc14 kV14 dc14 pm14 cd14 ct14 oc15 kV15 dc15 pm15 cd15 ct15 oc16 kV16 dc16 pm16 cd16 ct16 oc17 kV17 dc17 pm17 cd17 ct17 oc18 kV18 dc18 pm18 cd18 ct18 oc19 kV19 dc19 pm19 cd19 ct19 oc20 kV20 dc20 pm20 cd20 ct20 oc21 kV21 dc21 pm21 cd21 ct21 oc22 kV22 dc22 pm22 cd22 ct22 oc23 kV23 dc23 pm23 cd23 ct23 oc24 kV24 dc24 pm24 cd24 ct24 oc25 kV25 dc25 pm25 cd25 ct25 oc26 kV26 dc26 pm26 cd26 ct26 oc27 kV27 dc27 pm27 cd27 ct27 oc28 kV28 dc28 pm28 cd28 ct28 oc29 kV29 dc29 pm29 cd29 ct29 oc30 kV30 dc30 pm30 cd30 ct30 oc31 kV31 dc31 pm31 cd31 ct31 oc32 kV32 dc32 pm32 cd32 ct32 oc33 kV33 dc33 pm33 cd33 ct33 oc34 kV34 dc34 pm34 cd34 ct34 oc35 kV35 dc35 pm35 cd35 ct35 oc36 kV36 dc36 pm36 cd36 ct36 oc37 kV37 dc37 pm37 cd37 ct37 oc38 kV38 dc38 pm38 cd38 ct38 oc39 kV39 dc39 pm39 cd39 ct39 oc40 kV40 dc40 pm40 cd40 ct40 oc41 kV41 dc41 pm41 cd41 ct41 oc42 kV42 dc42 pm42 cd42 ct42 oc43 kV43 dc43 pm43 cd43 ct43 oc44 kV44 dc44 pm44 cd44 ct44 oc45 kV45 dc45 pm45 cd45 ct45 oc46 kV46 dc46 pm46 cd46 ct46 oc47 kV47 dc47 pm47 cd47 ct47 oc48 kV48 dc48 pm48 cd48 ct48 oc49 kV49 dc49 pm49 cd49 ct49 oc50 kV50 dc50 pm50 cd50 ct50 oc51 kV51 dc51 pm51 cd51 ct51 oc52 kV52 dc52 pm52 cd52 ct52 oc53 kV53 dc53 pm53 cd53 ct53 oc54 kV54 dc54 pm54 cd54 ct54 : Value} {tk_GREATEST tk_MOST_DAYS tk_MOST_GOODS tk_LONGEST_LIFE : Tok}
    (a1 : PySem.W.nsIn K mainGlobals "is_whole" = some (some (.ref f1))) (l1 : K.lookup f1 = some ⟨oc1, od1, .func (PySem.W.fnOf "is_whole" "is_whole" (defArgs s_is_whole) (defBody s_is_whole) (defScope s_is_whole) .none kV1 dc1 pm1 an1 cd1 ct1), sl1⟩) (c1 : PySem.W.codeIn K cd1 "is_whole" = true) (k1 : PySem.W.keepIn K (.ref f1) = true)
    (a2 : PySem.W.nsIn K mainGlobals "is_number" = some (some (.ref f2))) (l2 : K.lookup f2 = some ⟨oc2, od2, .func (PySem.W.fnOf "is_number" "is_number" (defArgs s_is_number) (defBody s_is_number) (defScope s_is_number) .none kV2 dc2 pm2 an2 cd2 ct2), sl2⟩) (c2 : PySem.W.codeIn K cd2 "is_number" = true) (k2 : PySem.W.keepIn K (.ref f2) = true)
    (a3 : PySem.W.nsIn K mainGlobals "is_tuple_of" = some (some (.ref f3))) (l3 : K.lookup f3 = some ⟨oc3, od3, .func (PySem.W.fnOf "is_tuple_of" "is_tuple_of" (defArgs s_is_tuple_of) (defBody s_is_tuple_of) (defScope s_is_tuple_of) .none kV3 dc3 pm3 an3 cd3 ct3), sl3⟩) (c3 : PySem.W.codeIn K cd3 "is_tuple_of" = true) (k3 : PySem.W.keepIn K (.ref f3) = true)
    (a4 : PySem.W.nsIn K mainGlobals "is_list_of" = some (some (.ref f4))) (l4 : K.lookup f4 = some ⟨oc4, od4, .func (PySem.W.fnOf "is_list_of" "is_list_of" (defArgs s_is_list_of) (defBody s_is_list_of) (defScope s_is_list_of) .none kV4 dc4 pm4 an4 cd4 ct4), sl4⟩) (c4 : PySem.W.codeIn K cd4 "is_list_of" = true) (k4 : PySem.W.keepIn K (.ref f4) = true)
    (a5 : PySem.W.nsIn K mainGlobals "are_whole" = some (some (.ref f5))) (l5 : K.lookup f5 = some ⟨oc5, od5, .func (PySem.W.fnOf "are_whole" "are_whole" (defArgs s_are_whole) (defBody s_are_whole) (defScope s_are_whole) .none kV5 dc5 pm5 an5 cd5 ct5), sl5⟩) (c5 : PySem.W.codeIn K cd5 "are_whole" = true) (k5 : PySem.W.keepIn K (.ref f5) = true)
    (a6 : PySem.W.nsIn K mainGlobals "are_lights" = some (some (.ref f6))) (l6 : K.lookup f6 = some ⟨oc6, od6, .func (PySem.W.fnOf "are_lights" "are_lights" (defArgs s_are_lights) (defBody s_are_lights) (defScope s_are_lights) .none kV6 dc6 pm6 an6 cd6 ct6), sl6⟩) (c6 : PySem.W.codeIn K cd6 "are_lights" = true) (k6 : PySem.W.keepIn K (.ref f6) = true)
    (a7 : PySem.W.nsIn K mainGlobals "is_bound" = some (some (.ref f7))) (l7 : K.lookup f7 = some ⟨oc7, od7, .func (PySem.W.fnOf "is_bound" "is_bound" (defArgs s_is_bound) (defBody s_is_bound) (defScope s_is_bound) .none kV7 dc7 pm7 an7 cd7 ct7), sl7⟩) (c7 : PySem.W.codeIn K cd7 "is_bound" = true) (k7 : PySem.W.keepIn K (.ref f7) = true)
    (a8 : PySem.W.nsIn K mainGlobals "is_life" = some (some (.ref f8))) (l8 : K.lookup f8 = some ⟨oc8, od8, .func (PySem.W.fnOf "is_life" "is_life" (defArgs s_is_life) (defBody s_is_life) (defScope s_is_life) .none kV8 dc8 pm8 an8 cd8 ct8), sl8⟩) (c8 : PySem.W.codeIn K cd8 "is_life" = true) (k8 : PySem.W.keepIn K (.ref f8) = true)
    (a9 : PySem.W.nsIn K mainGlobals "is_day" = some (some (.ref f9))) (l9 : K.lookup f9 = some ⟨oc9, od9, .func (PySem.W.fnOf "is_day" "is_day" (defArgs s_is_day) (defBody s_is_day) (defScope s_is_day) .none kV9 dc9 pm9 an9 cd9 ct9), sl9⟩) (c9 : PySem.W.codeIn K cd9 "is_day" = true) (k9 : PySem.W.keepIn K (.ref f9) = true)
    (a10 : PySem.W.nsIn K mainGlobals "has_bakery_form" = some (some (.ref f10))) (l10 : K.lookup f10 = some ⟨oc10, od10, .func (PySem.W.fnOf "has_bakery_form" "has_bakery_form" (defArgs s_has_bakery_form) (defBody s_has_bakery_form) (defScope s_has_bakery_form) .none kV10 dc10 pm10 an10 cd10 ct10), sl10⟩) (c10 : PySem.W.codeIn K cd10 "has_bakery_form" = true) (k10 : PySem.W.keepIn K (.ref f10) = true)
    (a11 : PySem.W.nsIn K mainGlobals "has_good_form" = some (some (.ref f11))) (l11 : K.lookup f11 = some ⟨oc11, od11, .func (PySem.W.fnOf "has_good_form" "has_good_form" (defArgs s_has_good_form) (defBody s_has_good_form) (defScope s_has_good_form) .none kV11 dc11 pm11 an11 cd11 ct11), sl11⟩) (c11 : PySem.W.codeIn K cd11 "has_good_form" = true) (k11 : PySem.W.keepIn K (.ref f11) = true)
    (a12 : PySem.W.nsIn K mainGlobals "look_at_goods" = some (some (.ref f12))) (l12 : K.lookup f12 = some ⟨oc12, od12, .func (PySem.W.fnOf "look_at_goods" "look_at_goods" (defArgs s_look_at_goods) (defBody s_look_at_goods) (defScope s_look_at_goods) .none kV12 dc12 pm12 an12 cd12 ct12), sl12⟩) (c12 : PySem.W.codeIn K cd12 "look_at_goods" = true) (k12 : PySem.W.keepIn K (.ref f12) = true)
    (a13 : PySem.W.nsIn K mainGlobals "look_at_bakery" = some (some (.ref f13))) (l13 : K.lookup f13 = some ⟨oc13, od13, .func (PySem.W.fnOf "look_at_bakery" "look_at_bakery" (defArgs s_look_at_bakery) (defBody s_look_at_bakery) (defScope s_look_at_bakery) .none kV13 dc13 pm13 an13 cd13 ct13), sl13⟩) (c13 : PySem.W.codeIn K cd13 "look_at_bakery" = true) (k13 : PySem.W.keepIn K (.ref f13) = true)
    (a14 : PySem.W.nsIn K mainGlobals "is_plain" = some (some (.ref f14))) (l14 : K.lookup f14 = some ⟨oc14, od14, .func (PySem.W.fnOf "is_plain" "is_plain" (defArgs s_is_plain) (defBody s_is_plain) (defScope s_is_plain) .none kV14 dc14 pm14 an14 cd14 ct14), sl14⟩) (c14 : PySem.W.codeIn K cd14 "is_plain" = true) (k14 : PySem.W.keepIn K (.ref f14) = true)
    (a15 : PySem.W.nsIn K mainGlobals "look_at_plain" = some (some (.ref f15))) (l15 : K.lookup f15 = some ⟨oc15, od15, .func (PySem.W.fnOf "look_at_plain" "look_at_plain" (defArgs s_look_at_plain) (defBody s_look_at_plain) (defScope s_look_at_plain) .none kV15 dc15 pm15 an15 cd15 ct15), sl15⟩) (c15 : PySem.W.codeIn K cd15 "look_at_plain" = true) (k15 : PySem.W.keepIn K (.ref f15) = true)
    (a16 : PySem.W.nsIn K mainGlobals "keeps_of" = some (some (.ref f16))) (l16 : K.lookup f16 = some ⟨oc16, od16, .func (PySem.W.fnOf "keeps_of" "keeps_of" (defArgs s_keeps_of) (defBody s_keeps_of) (defScope s_keeps_of) .none kV16 dc16 pm16 an16 cd16 ct16), sl16⟩) (c16 : PySem.W.codeIn K cd16 "keeps_of" = true) (k16 : PySem.W.keepIn K (.ref f16) = true)
    (a17 : PySem.W.nsIn K mainGlobals "fines_of" = some (some (.ref f17))) (l17 : K.lookup f17 = some ⟨oc17, od17, .func (PySem.W.fnOf "fines_of" "fines_of" (defArgs s_fines_of) (defBody s_fines_of) (defScope s_fines_of) .none kV17 dc17 pm17 an17 cd17 ct17), sl17⟩) (c17 : PySem.W.codeIn K cd17 "fines_of" = true) (k17 : PySem.W.keepIn K (.ref f17) = true)
    (a18 : PySem.W.nsIn K mainGlobals "loaf_price" = some (some (.ref f18))) (l18 : K.lookup f18 = some ⟨oc18, od18, .func (PySem.W.fnOf "loaf_price" "loaf_price" (defArgs s_loaf_price) (defBody s_loaf_price) (defScope s_loaf_price) .none kV18 dc18 pm18 an18 cd18 ct18), sl18⟩) (c18 : PySem.W.codeIn K cd18 "loaf_price" = true) (k18 : PySem.W.keepIn K (.ref f18) = true)
    (a19 : PySem.W.nsIn K mainGlobals "wanted_price" = some (some (.ref f19))) (l19 : K.lookup f19 = some ⟨oc19, od19, .func (PySem.W.fnOf "wanted_price" "wanted_price" (defArgs s_wanted_price) (defBody s_wanted_price) (defScope s_wanted_price) .none kV19 dc19 pm19 an19 cd19 ct19), sl19⟩) (c19 : PySem.W.codeIn K cd19 "wanted_price" = true) (k19 : PySem.W.keepIn K (.ref f19) = true)
    (a20 : PySem.W.nsIn K mainGlobals "wanted_table" = some (some (.ref f20))) (l20 : K.lookup f20 = some ⟨oc20, od20, .func (PySem.W.fnOf "wanted_table" "wanted_table" (defArgs s_wanted_table) (defBody s_wanted_table) (defScope s_wanted_table) .none kV20 dc20 pm20 an20 cd20 ct20), sl20⟩) (c20 : PySem.W.codeIn K cd20 "wanted_table" = true) (k20 : PySem.W.keepIn K (.ref f20) = true)
    (a21 : PySem.W.nsIn K mainGlobals "least_baked_on" = some (some (.ref f21))) (l21 : K.lookup f21 = some ⟨oc21, od21, .func (PySem.W.fnOf "least_baked_on" "least_baked_on" (defArgs s_least_baked_on) (defBody s_least_baked_on) (defScope s_least_baked_on) .none kV21 dc21 pm21 an21 cd21 ct21), sl21⟩) (c21 : PySem.W.codeIn K cd21 "least_baked_on" = true) (k21 : PySem.W.keepIn K (.ref f21) = true)
    (a22 : PySem.W.nsIn K mainGlobals "least_of" = some (some (.ref f22))) (l22 : K.lookup f22 = some ⟨oc22, od22, .func (PySem.W.fnOf "least_of" "least_of" (defArgs s_least_of) (defBody s_least_of) (defScope s_least_of) .none kV22 dc22 pm22 an22 cd22 ct22), sl22⟩) (c22 : PySem.W.codeIn K cd22 "least_of" = true) (k22 : PySem.W.keepIn K (.ref f22) = true)
    (a23 : PySem.W.nsIn K mainGlobals "is_unwanted" = some (some (.ref f23))) (l23 : K.lookup f23 = some ⟨oc23, od23, .func (PySem.W.fnOf "is_unwanted" "is_unwanted" (defArgs s_is_unwanted) (defBody s_is_unwanted) (defScope s_is_unwanted) .none kV23 dc23 pm23 an23 cd23 ct23), sl23⟩) (c23 : PySem.W.codeIn K cd23 "is_unwanted" = true) (k23 : PySem.W.keepIn K (.ref f23) = true)
    (a24 : PySem.W.nsIn K mainGlobals "least_row" = some (some (.ref f24))) (l24 : K.lookup f24 = some ⟨oc24, od24, .func (PySem.W.fnOf "least_row" "least_row" (defArgs s_least_row) (defBody s_least_row) (defScope s_least_row) .none kV24 dc24 pm24 an24 cd24 ct24), sl24⟩) (c24 : PySem.W.codeIn K cd24 "least_row" = true) (k24 : PySem.W.keepIn K (.ref f24) = true)
    (a25 : PySem.W.nsIn K mainGlobals "first_baked_on" = some (some (.ref f25))) (l25 : K.lookup f25 = some ⟨oc25, od25, .func (PySem.W.fnOf "first_baked_on" "first_baked_on" (defArgs s_first_baked_on) (defBody s_first_baked_on) (defScope s_first_baked_on) .none kV25 dc25 pm25 an25 cd25 ct25), sl25⟩) (c25 : PySem.W.codeIn K cd25 "first_baked_on" = true) (k25 : PySem.W.keepIn K (.ref f25) = true)
    (a26 : PySem.W.nsIn K mainGlobals "last_stretch" = some (some (.ref f26))) (l26 : K.lookup f26 = some ⟨oc26, od26, .func (PySem.W.fnOf "last_stretch" "last_stretch" (defArgs s_last_stretch) (defBody s_last_stretch) (defScope s_last_stretch) .none kV26 dc26 pm26 an26 cd26 ct26), sl26⟩) (c26 : PySem.W.codeIn K cd26 "last_stretch" = true) (k26 : PySem.W.keepIn K (.ref f26) = true)
    (a27 : PySem.W.nsIn K mainGlobals "stretch_rows" = some (some (.ref f27))) (l27 : K.lookup f27 = some ⟨oc27, od27, .func (PySem.W.fnOf "stretch_rows" "stretch_rows" (defArgs s_stretch_rows) (defBody s_stretch_rows) (defScope s_stretch_rows) .none kV27 dc27 pm27 an27 cd27 ct27), sl27⟩) (c27 : PySem.W.codeIn K cd27 "stretch_rows" = true) (k27 : PySem.W.keepIn K (.ref f27) = true)
    (a28 : PySem.W.nsIn K mainGlobals "cheapest" = some (some (.ref f28))) (l28 : K.lookup f28 = some ⟨oc28, od28, .func (PySem.W.fnOf "cheapest" "cheapest" (defArgs s_cheapest) (defBody s_cheapest) (defScope s_cheapest) .none kV28 dc28 pm28 an28 cd28 ct28), sl28⟩) (c28 : PySem.W.codeIn K cd28 "cheapest" = true) (k28 : PySem.W.keepIn K (.ref f28) = true)
    (a29 : PySem.W.nsIn K mainGlobals "lit_days" = some (some (.ref f29))) (l29 : K.lookup f29 = some ⟨oc29, od29, .func (PySem.W.fnOf "lit_days" "lit_days" (defArgs s_lit_days) (defBody s_lit_days) (defScope s_lit_days) .none kV29 dc29 pm29 an29 cd29 ct29), sl29⟩) (c29 : PySem.W.codeIn K cd29 "lit_days" = true) (k29 : PySem.W.keepIn K (.ref f29) = true)
    (a30 : PySem.W.nsIn K mainGlobals "cost_of" = some (some (.ref f30))) (l30 : K.lookup f30 = some ⟨oc30, od30, .func (PySem.W.fnOf "cost_of" "cost_of" (defArgs s_cost_of) (defBody s_cost_of) (defScope s_cost_of) .none kV30 dc30 pm30 an30 cd30 ct30), sl30⟩) (c30 : PySem.W.codeIn K cd30 "cost_of" = true) (k30 : PySem.W.keepIn K (.ref f30) = true)
    (a31 : PySem.W.nsIn K mainGlobals "are_prices" = some (some (.ref f31))) (l31 : K.lookup f31 = some ⟨oc31, od31, .func (PySem.W.fnOf "are_prices" "are_prices" (defArgs s_are_prices) (defBody s_are_prices) (defScope s_are_prices) .none kV31 dc31 pm31 an31 cd31 ct31), sl31⟩) (c31 : PySem.W.codeIn K cd31 "are_prices" = true) (k31 : PySem.W.keepIn K (.ref f31) = true)
    (a32 : PySem.W.nsIn K mainGlobals "lets_baked_on" = some (some (.ref f32))) (l32 : K.lookup f32 = some ⟨oc32, od32, .func (PySem.W.fnOf "lets_baked_on" "lets_baked_on" (defArgs s_lets_baked_on) (defBody s_lets_baked_on) (defScope s_lets_baked_on) .none kV32 dc32 pm32 an32 cd32 ct32), sl32⟩) (c32 : PySem.W.codeIn K cd32 "lets_baked_on" = true) (k32 : PySem.W.keepIn K (.ref f32) = true)
    (a33 : PySem.W.nsIn K mainGlobals "lets_prices" = some (some (.ref f33))) (l33 : K.lookup f33 = some ⟨oc33, od33, .func (PySem.W.fnOf "lets_prices" "lets_prices" (defArgs s_lets_prices) (defBody s_lets_prices) (defScope s_lets_prices) .none kV33 dc33 pm33 an33 cd33 ct33), sl33⟩) (c33 : PySem.W.codeIn K cd33 "lets_prices" = true) (k33 : PySem.W.keepIn K (.ref f33) = true)
    (a34 : PySem.W.nsIn K mainGlobals "anywhere_row" = some (some (.ref f34))) (l34 : K.lookup f34 = some ⟨oc34, od34, .func (PySem.W.fnOf "anywhere_row" "anywhere_row" (defArgs s_anywhere_row) (defBody s_anywhere_row) (defScope s_anywhere_row) .none kV34 dc34 pm34 an34 cd34 ct34), sl34⟩) (c34 : PySem.W.codeIn K cd34 "anywhere_row" = true) (k34 : PySem.W.keepIn K (.ref f34) = true)
    (a35 : PySem.W.nsIn K mainGlobals "prices_of" = some (some (.ref f35))) (l35 : K.lookup f35 = some ⟨oc35, od35, .func (PySem.W.fnOf "prices_of" "prices_of" (defArgs s_prices_of) (defBody s_prices_of) (defScope s_prices_of) .none kV35 dc35 pm35 an35 cd35 ct35), sl35⟩) (c35 : PySem.W.codeIn K cd35 "prices_of" = true) (k35 : PySem.W.keepIn K (.ref f35) = true)
    (a36 : PySem.W.nsIn K mainGlobals "never_waits" = some (some (.ref f36))) (l36 : K.lookup f36 = some ⟨oc36, od36, .func (PySem.W.fnOf "never_waits" "never_waits" (defArgs s_never_waits) (defBody s_never_waits) (defScope s_never_waits) .none kV36 dc36 pm36 an36 cd36 ct36), sl36⟩) (c36 : PySem.W.codeIn K cd36 "never_waits" = true) (k36 : PySem.W.keepIn K (.ref f36) = true)
    (a37 : PySem.W.nsIn K mainGlobals "is_later_never_dearer" = some (some (.ref f37))) (l37 : K.lookup f37 = some ⟨oc37, od37, .func (PySem.W.fnOf "is_later_never_dearer" "is_later_never_dearer" (defArgs s_is_later_never_dearer) (defBody s_is_later_never_dearer) (defScope s_is_later_never_dearer) .none kV37 dc37 pm37 an37 cd37 ct37), sl37⟩) (c37 : PySem.W.codeIn K cd37 "is_later_never_dearer" = true) (k37 : PySem.W.keepIn K (.ref f37) = true)
    (a38 : PySem.W.nsIn K mainGlobals "is_steady" = some (some (.ref f38))) (l38 : K.lookup f38 = some ⟨oc38, od38, .func (PySem.W.fnOf "is_steady" "is_steady" (defArgs s_is_steady) (defBody s_is_steady) (defScope s_is_steady) .none kV38 dc38 pm38 an38 cd38 ct38), sl38⟩) (c38 : PySem.W.codeIn K cd38 "is_steady" = true) (k38 : PySem.W.keepIn K (.ref f38) = true)
    (a39 : PySem.W.nsIn K mainGlobals "look_at_steady" = some (some (.ref f39))) (l39 : K.lookup f39 = some ⟨oc39, od39, .func (PySem.W.fnOf "look_at_steady" "look_at_steady" (defArgs s_look_at_steady) (defBody s_look_at_steady) (defScope s_look_at_steady) .none kV39 dc39 pm39 an39 cd39 ct39), sl39⟩) (c39 : PySem.W.codeIn K cd39 "look_at_steady" = true) (k39 : PySem.W.keepIn K (.ref f39) = true)
    (a40 : PySem.W.nsIn K mainGlobals "ends_with" = some (some (.ref f40))) (l40 : K.lookup f40 = some ⟨oc40, od40, .func (PySem.W.fnOf "ends_with" "ends_with" (defArgs s_ends_with) (defBody s_ends_with) (defScope s_ends_with) .none kV40 dc40 pm40 an40 cd40 ct40), sl40⟩) (c40 : PySem.W.codeIn K cd40 "ends_with" = true) (k40 : PySem.W.keepIn K (.ref f40) = true)
    (a41 : PySem.W.nsIn K mainGlobals "last_lit" = some (some (.ref f41))) (l41 : K.lookup f41 = some ⟨oc41, od41, .func (PySem.W.fnOf "last_lit" "last_lit" (defArgs s_last_lit) (defBody s_last_lit) (defScope s_last_lit) .none kV41 dc41 pm41 an41 cd41 ct41), sl41⟩) (c41 : PySem.W.codeIn K cd41 "last_lit" = true) (k41 : PySem.W.keepIn K (.ref f41) = true)
    (a42 : PySem.W.nsIn K mainGlobals "last_lits" = some (some (.ref f42))) (l42 : K.lookup f42 = some ⟨oc42, od42, .func (PySem.W.fnOf "last_lits" "last_lits" (defArgs s_last_lits) (defBody s_last_lits) (defScope s_last_lits) .none kV42 dc42 pm42 an42 cd42 ct42), sl42⟩) (c42 : PySem.W.codeIn K cd42 "last_lits" = true) (k42 : PySem.W.keepIn K (.ref f42) = true)
    (a43 : PySem.W.nsIn K mainGlobals "chain_of" = some (some (.ref f43))) (l43 : K.lookup f43 = some ⟨oc43, od43, .func (PySem.W.fnOf "chain_of" "chain_of" (defArgs s_chain_of) (defBody s_chain_of) (defScope s_chain_of) .none kV43 dc43 pm43 an43 cd43 ct43), sl43⟩) (c43 : PySem.W.codeIn K cd43 "chain_of" = true) (k43 : PySem.W.keepIn K (.ref f43) = true)
    (a44 : PySem.W.nsIn K mainGlobals "settled_by" = some (some (.ref f44))) (l44 : K.lookup f44 = some ⟨oc44, od44, .func (PySem.W.fnOf "settled_by" "settled_by" (defArgs s_settled_by) (defBody s_settled_by) (defScope s_settled_by) .none kV44 dc44 pm44 an44 cd44 ct44), sl44⟩) (c44 : PySem.W.codeIn K cd44 "settled_by" = true) (k44 : PySem.W.keepIn K (.ref f44) = true)
    (a45 : PySem.W.nsIn K mainGlobals "settled" = some (some (.ref f45))) (l45 : K.lookup f45 = some ⟨oc45, od45, .func (PySem.W.fnOf "settled" "settled" (defArgs s_settled) (defBody s_settled) (defScope s_settled) .none kV45 dc45 pm45 an45 cd45 ct45), sl45⟩) (c45 : PySem.W.codeIn K cd45 "settled" = true) (k45 : PySem.W.keepIn K (.ref f45) = true)
    (a46 : PySem.W.nsIn K mainGlobals "_law_cell_at" = some (some (.ref f46))) (l46 : K.lookup f46 = some ⟨oc46, od46, .func (PySem.W.fnOf "_law_cell_at" "_law_cell_at" (defArgs s_cell_at) (defBody s_cell_at) (defScope s_cell_at) .none kV46 dc46 pm46 an46 cd46 ct46), sl46⟩) (c46 : PySem.W.codeIn K cd46 "_law_cell_at" = true) (k46 : PySem.W.keepIn K (.ref f46) = true)
    (a47 : PySem.W.nsIn K mainGlobals "_law_numbers" = some (some (.ref f47))) (l47 : K.lookup f47 = some ⟨oc47, od47, .func (PySem.W.fnOf "_law_numbers" "_law_numbers" (defArgs s_numbers) (defBody s_numbers) (defScope s_numbers) .none kV47 dc47 pm47 an47 cd47 ct47), sl47⟩) (c47 : PySem.W.codeIn K cd47 "_law_numbers" = true) (k47 : PySem.W.keepIn K (.ref f47) = true)
    (a48 : PySem.W.nsIn K mainGlobals "_law_day" = some (some (.ref f48))) (l48 : K.lookup f48 = some ⟨oc48, od48, .func (PySem.W.fnOf "_law_day" "_law_day" (defArgs s_day) (defBody s_day) (defScope s_day) .none kV48 dc48 pm48 an48 cd48 ct48), sl48⟩) (c48 : PySem.W.codeIn K cd48 "_law_day" = true) (k48 : PySem.W.keepIn K (.ref f48) = true)
    (a49 : PySem.W.nsIn K mainGlobals "_law_days" = some (some (.ref f49))) (l49 : K.lookup f49 = some ⟨oc49, od49, .func (PySem.W.fnOf "_law_days" "_law_days" (defArgs s_days) (defBody s_days) (defScope s_days) .none kV49 dc49 pm49 an49 cd49 ct49), sl49⟩) (c49 : PySem.W.codeIn K cd49 "_law_days" = true) (k49 : PySem.W.keepIn K (.ref f49) = true)
    (a50 : PySem.W.nsIn K mainGlobals "_law_bakery" = some (some (.ref f50))) (l50 : K.lookup f50 = some ⟨oc50, od50, .func (PySem.W.fnOf "_law_bakery" "_law_bakery" (defArgs s_bakery) (defBody s_bakery) (defScope s_bakery) .none kV50 dc50 pm50 an50 cd50 ct50), sl50⟩) (c50 : PySem.W.codeIn K cd50 "_law_bakery" = true) (k50 : PySem.W.keepIn K (.ref f50) = true)
    (a51 : PySem.W.nsIn K mainGlobals "_law_turned" = some (some (.ref f51))) (l51 : K.lookup f51 = some ⟨oc51, od51, .func (PySem.W.fnOf "_law_turned" "_law_turned" (defArgs s_turned) (defBody s_turned) (defScope s_turned) .none kV51 dc51 pm51 an51 cd51 ct51), sl51⟩) (c51 : PySem.W.codeIn K cd51 "_law_turned" = true) (k51 : PySem.W.keepIn K (.ref f51) = true)
    (a52 : PySem.W.nsIn K mainGlobals "_law_small" = some (some (.ref f52))) (l52 : K.lookup f52 = some ⟨oc52, od52, .func (PySem.W.fnOf "_law_small" "_law_small" (defArgs s_small) (defBody s_small) (defScope s_small) .none kV52 dc52 pm52 an52 cd52 ct52), sl52⟩) (c52 : PySem.W.codeIn K cd52 "_law_small" = true) (k52 : PySem.W.keepIn K (.ref f52) = true)
    (a53 : PySem.W.nsIn K mainGlobals "_law_ahead" = some (some (.ref f53))) (l53 : K.lookup f53 = some ⟨oc53, od53, .func (PySem.W.fnOf "_law_ahead" "_law_ahead" (defArgs s_ahead) (defBody s_ahead) (defScope s_ahead) .none kV53 dc53 pm53 an53 cd53 ct53), sl53⟩) (c53 : PySem.W.codeIn K cd53 "_law_ahead" = true) (k53 : PySem.W.keepIn K (.ref f53) = true)
    (a54 : PySem.W.nsIn K mainGlobals "law" = some (some (.ref f54))) (l54 : K.lookup f54 = some ⟨oc54, od54, .func (PySem.W.fnOf "law" "law" (defArgs s_law) (defBody s_law) (defScope s_law) .none kV54 dc54 pm54 an54 cd54 ct54), sl54⟩) (c54 : PySem.W.codeIn K cd54 "law" = true) (k54 : PySem.W.keepIn K (.ref f54) = true)
    (z_len : PySem.W.nsIn K mainGlobals "len" = some none) (z_max : PySem.W.nsIn K mainGlobals "max" = some none) (z_min : PySem.W.nsIn K mainGlobals "min" = some none) (z_range : PySem.W.nsIn K mainGlobals "range" = some none) (z_isinstance : PySem.W.nsIn K mainGlobals "isinstance" = some none) (z_int : PySem.W.nsIn K mainGlobals "int" = some none) (z_bool : PySem.W.nsIn K mainGlobals "bool" = some none) (z_list : PySem.W.nsIn K mainGlobals "list" = some none) (z_tuple : PySem.W.nsIn K mainGlobals "tuple" = some none) (z_all : PySem.W.nsIn K mainGlobals "all" = some none) (z_sum : PySem.W.nsIn K mainGlobals "sum" = some none) (z_repr : PySem.W.nsIn K mainGlobals "repr" = some none) (z_enumerate : PySem.W.nsIn K mainGlobals "enumerate" = some none) (z_reversed : PySem.W.nsIn K mainGlobals "reversed" = some none) (z_sorted : PySem.W.nsIn K mainGlobals "sorted" = some none) (z_zip : PySem.W.nsIn K mainGlobals "zip" = some none) (y_GREATEST : PySem.W.nsIn K mainGlobals "GREATEST" = some (some (.int 1000000000 tk_GREATEST))) (y_MOST_DAYS : PySem.W.nsIn K mainGlobals "MOST_DAYS" = some (some (.int 40 tk_MOST_DAYS))) (y_MOST_GOODS : PySem.W.nsIn K mainGlobals "MOST_GOODS" = some (some (.int 2 tk_MOST_GOODS))) (y_LONGEST_LIFE : PySem.W.nsIn K mainGlobals "LONGEST_LIFE" = some (some (.int 40 tk_LONGEST_LIFE))) :
    ∃ fd : FuncData, (∀ (s : Shared) (v : Value), BindsTo s fd ⟨[v], []⟩ [("_law_script", v)]) ∧ ∀ base : Heap, K.In base → base.Ns mainGlobals mg → FnOk l.prog w K mg base CX0 12 fa fd ["_law_script"] (spLaw K) := by
  have e := hfa.symm.trans (PySem.W.mg_of X G a54)
  cases e
  have F1 := fun_mk (st := s_is_whole) l1 c1 k1
  have b1 := F1.binds (ps := ["thing"]) fun _ _ _ _ _ _ us hl => match us, hl with | [_], _ => rfl
  have F2 := fun_mk (st := s_is_number) l2 c2 k2
  have b2 := F2.binds (ps := ["thing"]) fun _ _ _ _ _ _ us hl => match us, hl with | [_], _ => rfl
  have F3 := fun_mk (st := s_is_tuple_of) l3 c3 k3
  have b3 := F3.binds (ps := ["thing", "many"]) fun _ _ _ _ _ _ us hl => match us, hl with | [_, _], _ => rfl
  have F4 := fun_mk (st := s_is_list_of) l4 c4 k4
  have b4 := F4.binds (ps := ["thing", "fewest", "most"]) fun _ _ _ _ _ _ us hl => match us, hl with | [_, _, _], _ => rfl
  have F5 := fun_mk (st := s_are_whole) l5 c5 k5
  have b5 := F5.binds (ps := ["thing", "many"]) fun _ _ _ _ _ _ us hl => match us, hl with | [_, _], _ => rfl
  have F6 := fun_mk (st := s_are_lights) l6 c6 k6
  have b6 := F6.binds (ps := ["thing"]) fun _ _ _ _ _ _ us hl => match us, hl with | [_], _ => rfl
  have F7 := fun_mk (st := s_is_bound) l7 c7 k7
  have b7 := F7.binds (ps := ["thing"]) fun _ _ _ _ _ _ us hl => match us, hl with | [_], _ => rfl
  have F8 := fun_mk (st := s_is_life) l8 c8 k8
  have b8 := F8.binds (ps := ["thing"]) fun _ _ _ _ _ _ us hl => match us, hl with | [_], _ => rfl
  have F9 := fun_mk (st := s_is_day) l9 c9 k9
  have b9 := F9.binds (ps := ["thing"]) fun _ _ _ _ _ _ us hl => match us, hl with | [_], _ => rfl
  have F10 := fun_mk (st := s_has_bakery_form) l10 c10 k10
  have b10 := F10.binds (ps := ["thing"]) fun _ _ _ _ _ _ us hl => match us, hl with | [_], _ => rfl
  have F11 := fun_mk (st := s_has_good_form) l11 c11 k11
  have b11 := F11.binds (ps := ["thing", "many"]) fun _ _ _ _ _ _ us hl => match us, hl with | [_, _], _ => rfl
  have F12 := fun_mk (st := s_look_at_goods) l12 c12 k12
  have b12 := F12.binds (ps := ["goods", "many"]) fun _ _ _ _ _ _ us hl => match us, hl with | [_, _], _ => rfl
  have F13 := fun_mk (st := s_look_at_bakery) l13 c13 k13
  have b13 := F13.binds (ps := ["thing"]) fun _ _ _ _ _ _ us hl => match us, hl with | [_], _ => rfl
  have F14 := fun_mk (st := s_is_plain) l14 c14 k14
  have b14 := F14.binds (ps := ["bakery"]) fun _ _ _ _ _ _ us hl => match us, hl with | [_], _ => rfl
  have F15 := fun_mk (st := s_look_at_plain) l15 c15 k15
  have b15 := F15.binds (ps := ["bakery"]) fun _ _ _ _ _ _ us hl => match us, hl with | [_], _ => rfl
  have F16 := fun_mk (st := s_keeps_of) l16 c16 k16
  have b16 := F16.binds (ps := ["days", "first", "behind"]) fun _ _ _ _ _ _ us hl => match us, hl with | [_, _, _], _ => rfl
  have F17 := fun_mk (st := s_fines_of) l17 c17 k17
  have b17 := F17.binds (ps := ["days", "first", "behind"]) fun _ _ _ _ _ _ us hl => match us, hl with | [_, _, _], _ => rfl
  have F18 := fun_mk (st := s_loaf_price) l18 c18 k18
  have b18 := F18.binds (ps := ["good", "baked", "given"]) fun _ _ _ _ _ _ us hl => match us, hl with | [_, _, _], _ => rfl
  have F19 := fun_mk (st := s_wanted_price) l19 c19 k19
  have b19 := F19.binds (ps := ["good", "baked", "given"]) fun _ _ _ _ _ _ us hl => match us, hl with | [_, _, _], _ => rfl
  have F20 := fun_mk (st := s_wanted_table) l20 c20 k20
  have b20 := F20.binds (ps := ["good"]) fun _ _ _ _ _ _ us hl => match us, hl with | [_], _ => rfl
  have F21 := fun_mk (st := s_least_baked_on) l21 c21 k21
  have b21 := F21.binds (ps := ["row", "light", "prices", "many"]) fun _ _ _ _ _ _ us hl => match us, hl with | [_, _, _, _], _ => rfl
  have F22 := fun_mk (st := s_least_of) l22 c22 k22
  have b22 := F22.binds (ps := ["row", "lights", "table", "many", "ovens"]) fun _ _ _ _ _ _ us hl => match us, hl with | [_, _, _, _, _], _ => rfl
  have F23 := fun_mk (st := s_is_unwanted) l23 c23 k23
  have b23 := F23.binds (ps := ["good", "day"]) fun _ _ _ _ _ _ us hl => match us, hl with | [_, _], _ => rfl
  have F24 := fun_mk (st := s_least_row) l24 c24 k24
  have b24 := F24.binds (ps := ["bakery"]) fun _ _ _ _ _ _ us hl => match us, hl with | [_], _ => rfl
  have F25 := fun_mk (st := s_first_baked_on) l25 c25 k25
  have b25 := F25.binds (ps := ["row", "light", "prices", "many"]) fun _ _ _ _ _ _ us hl => match us, hl with | [_, _, _, _], _ => rfl
  have F26 := fun_mk (st := s_last_stretch) l26 c26 k26
  have b26 := F26.binds (ps := ["row", "lights", "table", "many"]) fun _ _ _ _ _ _ us hl => match us, hl with | [_, _, _, _], _ => rfl
  have F27 := fun_mk (st := s_stretch_rows) l27 c27 k27
  have b27 := F27.binds (ps := ["days", "baked", "first", "behind"]) fun _ _ _ _ _ _ us hl => match us, hl with | [_, _, _, _], _ => rfl
  have F28 := fun_mk (st := s_cheapest) l28 c28 k28
  have b28 := F28.binds (ps := ["bakery"]) fun _ _ _ _ _ _ us hl => match us, hl with | [_], _ => rfl
  have F29 := fun_mk (st := s_lit_days) l29 c29 k29
  have b29 := F29.binds (ps := ["plan"]) fun _ _ _ _ _ _ us hl => match us, hl with | [_], _ => rfl
  have F30 := fun_mk (st := s_cost_of) l30 c30 k30
  have b30 := F30.binds (ps := ["bakery", "plan"]) fun _ _ _ _ _ _ us hl => match us, hl with | [_, _], _ => rfl
  have F31 := fun_mk (st := s_are_prices) l31 c31 k31
  have b31 := F31.binds (ps := ["days", "thing"]) fun _ _ _ _ _ _ us hl => match us, hl with | [_, _], _ => rfl
  have F32 := fun_mk (st := s_lets_baked_on) l32 c32 k32
  have b32 := F32.binds (ps := ["light", "costs", "prices"]) fun _ _ _ _ _ _ us hl => match us, hl with | [_, _, _], _ => rfl
  have F33 := fun_mk (st := s_lets_prices) l33 c33 k33
  have b33 := F33.binds (ps := ["bakery", "thing"]) fun _ _ _ _ _ _ us hl => match us, hl with | [_, _], _ => rfl
  have F34 := fun_mk (st := s_anywhere_row) l34 c34 k34
  have b34 := F34.binds (ps := ["bakery"]) fun _ _ _ _ _ _ us hl => match us, hl with | [_], _ => rfl
  have F35 := fun_mk (st := s_prices_of) l35 c35 k35
  have b35 := F35.binds (ps := ["bakery"]) fun _ _ _ _ _ _ us hl => match us, hl with | [_], _ => rfl
  have F36 := fun_mk (st := s_never_waits) l36 c36 k36
  have b36 := F36.binds (ps := ["days"]) fun _ _ _ _ _ _ us hl => match us, hl with | [_], _ => rfl
  have F37 := fun_mk (st := s_is_later_never_dearer) l37 c37 k37
  have b37 := F37.binds (ps := ["days"]) fun _ _ _ _ _ _ us hl => match us, hl with | [_], _ => rfl
  have F38 := fun_mk (st := s_is_steady) l38 c38 k38
  have b38 := F38.binds (ps := ["bakery"]) fun _ _ _ _ _ _ us hl => match us, hl with | [_], _ => rfl
  have F39 := fun_mk (st := s_look_at_steady) l39 c39 k39
  have b39 := F39.binds (ps := ["bakery"]) fun _ _ _ _ _ _ us hl => match us, hl with | [_], _ => rfl
  have F40 := fun_mk (st := s_ends_with) l40 c40 k40
  have b40 := F40.binds (ps := ["row", "light", "prices", "first", "many"]) fun _ _ _ _ _ _ us hl => match us, hl with | [_, _, _, _, _], _ => rfl
  have F41 := fun_mk (st := s_last_lit) l41 c41 k41
  have b41 := F41.binds (ps := ["row", "lights", "table", "wants", "many"]) fun _ _ _ _ _ _ us hl => match us, hl with | [_, _, _, _, _], _ => rfl
  have F42 := fun_mk (st := s_last_lits) l42 c42 k42
  have b42 := F42.binds (ps := ["bakery"]) fun _ _ _ _ _ _ us hl => match us, hl with | [_], _ => rfl
  have F43 := fun_mk (st := s_chain_of) l43 c43 k43
  have b43 := F43.binds (ps := ["lasts", "number"]) fun _ _ _ _ _ _ us hl => match us, hl with | [_, _], _ => rfl
  have F44 := fun_mk (st := s_settled_by) l44 c44 k44
  have b44 := F44.binds (ps := ["lasts", "known"]) fun _ _ _ _ _ _ us hl => match us, hl with | [_, _], _ => rfl
  have F45 := fun_mk (st := s_settled) l45 c45 k45
  have b45 := F45.binds (ps := ["bakery"]) fun _ _ _ _ _ _ us hl => match us, hl with | [_], _ => rfl
  have F46 := fun_mk (st := s_cell_at) l46 c46 k46
  have b46 := F46.binds (ps := ["_law_script", "_law_k"]) fun _ _ _ _ _ _ us hl => match us, hl with | [_, _], _ => rfl
  have F47 := fun_mk (st := s_numbers) l47 c47 k47
  have b47 := F47.binds (ps := ["_law_cell", "_law_salt", "_law_sizes"]) fun _ _ _ _ _ _ us hl => match us, hl with | [_, _, _], _ => rfl
  have F48 := fun_mk (st := s_day) l48 c48 k48
  have b48 := F48.binds (ps := ["_law_digits", "_law_late"]) fun _ _ _ _ _ _ us hl => match us, hl with | [_, _], _ => rfl
  have F49 := fun_mk (st := s_days) l49 c49 k49
  have b49 := F49.binds (ps := ["_law_script", "_law_first", "_law_upto", "_law_salt", "_law_late"]) fun _ _ _ _ _ _ us hl => match us, hl with | [_, _, _, _, _], _ => rfl
  have F50 := fun_mk (st := s_bakery) l50 c50 k50
  have b50 := F50.binds (ps := ["_law_script", "_law_upto", "_law_salt"]) fun _ _ _ _ _ _ us hl => match us, hl with | [_, _, _], _ => rfl
  have F51 := fun_mk (st := s_turned) l51 c51 k51
  have b51 := F51.binds (ps := ["_law_bakery_here", "_law_times", "_law_more"]) fun _ _ _ _ _ _ us hl => match us, hl with | [_, _, _], _ => rfl
  have F52 := fun_mk (st := s_small) l52 c52 k52
  have b52 := F52.binds (ps := ["_law_bakery_here"]) fun _ _ _ _ _ _ us hl => match us, hl with | [_], _ => rfl
  have F53 := fun_mk (st := s_ahead) l53 c53 k53
  have b53 := F53.binds (ps := ["_law_bakery_here", "_law_digits"]) fun _ _ _ _ _ _ us hl => match us, hl with | [_, _], _ => rfl
  have F54 := fun_mk (st := s_law) l54 c54 k54
  have b54 := F54.binds (ps := ["_law_script"]) fun _ _ _ _ _ _ us hl => match us, hl with | [_], _ => rfl
  have B : Bi mg := ⟨PySem.W.mg_none_of X G z_len, PySem.W.mg_none_of X G z_max, PySem.W.mg_none_of X G z_min, PySem.W.mg_none_of X G z_range, PySem.W.mg_none_of X G z_isinstance, PySem.W.mg_none_of X G z_int, PySem.W.mg_none_of X G z_bool, PySem.W.mg_none_of X G z_list, PySem.W.mg_none_of X G z_tuple, PySem.W.mg_none_of X G z_all, PySem.W.mg_none_of X G z_sum, PySem.W.mg_none_of X G z_repr, PySem.W.mg_none_of X G z_enumerate⟩
  have M_GREATEST := PySem.W.mg_of X G y_GREATEST
  have M_MOST_DAYS := PySem.W.mg_of X G y_MOST_DAYS
  have M_MOST_GOODS := PySem.W.mg_of X G y_MOST_GOODS
  have M_LONGEST_LIFE := PySem.W.mg_of X G y_LONGEST_LIFE
  refine ⟨PySem.W.fnOf "law" "law" (defArgs s_law) (defBody s_law) (defScope s_law) .none kV54 dc54 pm54 an54 cd54 ct54, fun s v => .of_eq rfl, fun base _ _ => ?_⟩
  have Bz := PySem.W.mg_none_of X G z_zip
  have Bs := PySem.W.mg_none_of X G z_sorted
  have Br := PySem.W.mg_none_of X G z_reversed
  have D1 : Def l.prog w K mg base "is_whole" 1 ["thing"] (spWhole K) := ⟨_, _, PySem.W.mg_of X G a1, k1, b1, ok_is_whole F1 B⟩
  have D2 : Def l.prog w K mg base "is_number" 2 ["thing"] (spNum K) := ⟨_, _, PySem.W.mg_of X G a2, k2, b2, ok_is_number (k := 0) F2 B M_GREATEST D1⟩
  have D3 : Def l.prog w K mg base "is_tuple_of" 1 ["thing", "many"] (spTupleOf K) := ⟨_, _, PySem.W.mg_of X G a3, k3, b3, ok_is_tuple_of F3 B⟩
  have D4 : Def l.prog w K mg base "is_list_of" 1 ["thing", "fewest", "most"] (spListOf K) := ⟨_, _, PySem.W.mg_of X G a4, k4, b4, ok_is_list_of F4 B⟩
  have D5 : Def l.prog w K mg base "are_whole" 2 ["thing", "many"] (spAreW K) := ⟨_, _, PySem.W.mg_of X G a5, k5, b5, ok_are_whole F5 B D4 D1⟩
  have D6 : Def l.prog w K mg base "are_lights" 3 ["thing"] (spPred K lightsB) := ⟨_, _, PySem.W.mg_of X G a6, k6, b6, ok_are_lights F6 B M_MOST_DAYS D4 D2⟩
  have D7 : Def l.prog w K mg base "is_bound" 3 ["thing"] (spPred K boundB) := ⟨_, _, PySem.W.mg_of X G a7, k7, b7, ok_is_bound F7 D2⟩
  have D8 : Def l.prog w K mg base "is_life" 3 ["thing"] (spPred K lifeB) := ⟨_, _, PySem.W.mg_of X G a8, k8, b8, ok_is_life F8 M_LONGEST_LIFE D1⟩
  have D9 : Def l.prog w K mg base "is_day" 3 ["thing"] (spPred K dayB) := ⟨_, _, PySem.W.mg_of X G a9, k9, b9, ok_is_day F9 B D3 D2⟩
  have D10 : Def l.prog w K mg base "has_bakery_form" 4 ["thing"] (spPred K bakFormB) := ⟨_, _, PySem.W.mg_of X G a10, k10, b10, ok_has_bakery_form F10 D3 D6 D7 D4 M_MOST_GOODS⟩
  have D11 : Def l.prog w K mg base "has_good_form" 4 ["thing", "many"] (spGoodForm K) := ⟨_, _, PySem.W.mg_of X G a11, k11, b11, ok_has_good_form F11 D3 D8 D4⟩
  have D12 : Def l.prog w K mg base "look_at_goods" 5 ["goods", "many"] (spLookGoods K) := ⟨_, _, PySem.W.mg_of X G a12, k12, b12, ok_look_at_goods F12 B D11 D9⟩
  have D13 : Def l.prog w K mg base "look_at_bakery" 6 ["thing"] (spLook K) := ⟨_, _, PySem.W.mg_of X G a13, k13, b13, ok_look_at_bakery F13 B D10 D12⟩
  have D14 : Def l.prog w K mg base "is_plain" 7 ["bakery"] (spPlain K (.bl true)) := ⟨_, _, PySem.W.mg_of X G a14, k14, b14, ok_is_plain F14 B D13⟩
  have D15 : Def l.prog w K mg base "look_at_plain" 8 ["bakery"] (spPlain K .non) := ⟨_, _, PySem.W.mg_of X G a15, k15, b15, ok_look_at_plain F15 D14⟩
  have D16 : Def l.prog w K mg base "keeps_of" 1 ["days", "first", "behind"] (spKeeps K) := ⟨_, _, PySem.W.mg_of X G a16, k16, b16, ok_keeps_of F16 B⟩
  have D17 : Def l.prog w K mg base "fines_of" 1 ["days", "first", "behind"] (spFines K) := ⟨_, _, PySem.W.mg_of X G a17, k17, b17, ok_fines_of F17 B⟩
  have D18 : Def l.prog w K mg base "loaf_price" 2 ["good", "baked", "given"] (spLoafP K) := ⟨_, _, PySem.W.mg_of X G a18, k18, b18, ok_loaf_price F18 D17 D16⟩
  have D19 : Def l.prog w K mg base "wanted_price" 3 ["good", "baked", "given"] (spWanted K) := ⟨_, _, PySem.W.mg_of X G a19, k19, b19, ok_wanted_price F19 D18⟩
  have D20 : Def l.prog w K mg base "wanted_table" 4 ["good"] (spTable K) := ⟨_, _, PySem.W.mg_of X G a20, k20, b20, ok_wanted_table F20 B D19⟩
  have D21 : Def l.prog w K mg base "least_baked_on" 1 ["row", "light", "prices", "many"] (spLbo K) := ⟨_, _, PySem.W.mg_of X G a21, k21, b21, ok_least_baked_on F21 B Br⟩
  have D22 : Def l.prog w K mg base "least_of" 2 ["row", "lights", "table", "many", "ovens"] (spLeastOf K) := ⟨_, _, PySem.W.mg_of X G a22, k22, b22, ok_least_of F22 B D21⟩
  have D23 : Def l.prog w K mg base "is_unwanted" 1 ["good", "day"] (spUnw K) := ⟨_, _, PySem.W.mg_of X G a23, k23, b23, ok_is_unwanted F23 ⟩
  have D24 : Def l.prog w K mg base "least_row" 9 ["bakery"] (spRow K) := ⟨_, _, PySem.W.mg_of X G a24, k24, b24, ok_least_row F24 B D15 D20 D22 D23⟩
  have D25 : Def l.prog w K mg base "first_baked_on" 1 ["row", "light", "prices", "many"] (spFbo K) := ⟨_, _, PySem.W.mg_of X G a25, k25, b25, ok_first_baked_on F25 B Br⟩
  have D26 : Def l.prog w K mg base "last_stretch" 2 ["row", "lights", "table", "many"] (spLstr K) := ⟨_, _, PySem.W.mg_of X G a26, k26, b26, ok_last_stretch F26 B D25⟩
  have D27 : Def l.prog w K mg base "stretch_rows" 1 ["days", "baked", "first", "behind"] (spSrows K) := ⟨_, _, PySem.W.mg_of X G a27, k27, b27, ok_stretch_rows F27 B⟩
  have D28 : Def l.prog w K mg base "cheapest" 10 ["bakery"] (spCheap K) := ⟨_, _, PySem.W.mg_of X G a28, k28, b28, ok_cheapest F28 B Bs D24 D20 D23 D26 D27⟩
  have D29 : Def l.prog w K mg base "lit_days" 1 ["plan"] (spLitD K) := ⟨_, _, PySem.W.mg_of X G a29, k29, b29, ok_lit_days F29 Bs⟩
  have D30 : Def l.prog w K mg base "cost_of" 7 ["bakery", "plan"] (spCostOf K) := ⟨_, _, PySem.W.mg_of X G a30, k30, b30, ok_cost_of F30 B D13 D29 D18⟩
  have D31 : Def l.prog w K mg base "are_prices" 3 ["days", "thing"] (spArePr K) := ⟨_, _, PySem.W.mg_of X G a31, k31, b31, ok_are_prices F31 B Bz D5⟩
  have D32 : Def l.prog w K mg base "lets_baked_on" 1 ["light", "costs", "prices"] (spLbk K) := ⟨_, _, PySem.W.mg_of X G a32, k32, b32, ok_lets_baked_on F32 B Bz⟩
  have D33 : Def l.prog w K mg base "lets_prices" 9 ["bakery", "thing"] (spLetsP K) := ⟨_, _, PySem.W.mg_of X G a33, k33, b33, ok_lets_prices F33 B Bz D15 D31 D20 D32⟩
  have D34 : Def l.prog w K mg base "anywhere_row" 5 ["bakery"] (spAny K) := ⟨_, _, PySem.W.mg_of X G a34, k34, b34, ok_anywhere_row F34 B D20 D22 D23⟩
  have D35 : Def l.prog w K mg base "prices_of" 9 ["bakery"] (spPrices K) := ⟨_, _, PySem.W.mg_of X G a35, k35, b35, ok_prices_of F35 B Bz D15 D34⟩
  have D36 : Def l.prog w K mg base "never_waits" 1 ["days"] (spNever K) := ⟨_, _, PySem.W.mg_of X G a36, k36, b36, ok_never_waits F36 B⟩
  have D37 : Def l.prog w K mg base "is_later_never_dearer" 1 ["days"] (spLater K) := ⟨_, _, PySem.W.mg_of X G a37, k37, b37, ok_is_later_never_dearer F37 B Bz⟩
  have D38 : Def l.prog w K mg base "is_steady" 8 ["bakery"] (spIsSt K) := ⟨_, _, PySem.W.mg_of X G a38, k38, b38, ok_is_steady F38 D14 D36 D37⟩
  have D39 : Def l.prog w K mg base "look_at_steady" 9 ["bakery"] (spLookSt K) := ⟨_, _, PySem.W.mg_of X G a39, k39, b39, ok_look_at_steady F39 D15 D38⟩
  have D40 : Def l.prog w K mg base "ends_with" 1 ["row", "light", "prices", "first", "many"] (spEnds K) := ⟨_, _, PySem.W.mg_of X G a40, k40, b40, ok_ends_with F40 B⟩
  have D41 : Def l.prog w K mg base "last_lit" 2 ["row", "lights", "table", "wants", "many"] (spLast K) := ⟨_, _, PySem.W.mg_of X G a41, k41, b41, ok_last_lit F41 B Br D40⟩
  have D42 : Def l.prog w K mg base "last_lits" 10 ["bakery"] (spLasts K) := ⟨_, _, PySem.W.mg_of X G a42, k42, b42, ok_last_lits F42 B D39 D24 D20 D41⟩
  have D43 : Def l.prog w K mg base "chain_of" 1 ["lasts", "number"] (spChain K) := ⟨_, _, PySem.W.mg_of X G a43, k43, b43, ok_chain_of F43 ⟩
  have D44 : Def l.prog w K mg base "settled_by" 2 ["lasts", "known"] (spSetBy K) := ⟨_, _, PySem.W.mg_of X G a44, k44, b44, ok_settled_by F44 B Bs D43⟩
  have D45 : Def l.prog w K mg base "settled" 11 ["bakery"] (spSettled K) := ⟨_, _, PySem.W.mg_of X G a45, k45, b45, ok_settled F45 B D42 D44⟩
  have D46 : Def l.prog w K mg base "_law_cell_at" 1 ["_law_script", "_law_k"] (spCellAt K) := ⟨_, _, PySem.W.mg_of X G a46, k46, b46, ok_cell_at F46 B⟩
  have D47 : Def l.prog w K mg base "_law_numbers" 1 ["_law_cell", "_law_salt", "_law_sizes"] (spNumbers K) := ⟨_, _, PySem.W.mg_of X G a47, k47, b47, ok_numbers F47 B⟩
  have D48 : Def l.prog w K mg base "_law_day" 1 ["_law_digits", "_law_late"] (spDay K) := ⟨_, _, PySem.W.mg_of X G a48, k48, b48, ok_day F48 ⟩
  have D49 : Def l.prog w K mg base "_law_days" 2 ["_law_script", "_law_first", "_law_upto", "_law_salt", "_law_late"] (spDays K) := ⟨_, _, PySem.W.mg_of X G a49, k49, b49, ok_days F49 B D47 D46 D48⟩
  have D50 : Def l.prog w K mg base "_law_bakery" 3 ["_law_script", "_law_upto", "_law_salt"] (spBakery K) := ⟨_, _, PySem.W.mg_of X G a50, k50, b50, ok_bakery F50 D47 D46 D49⟩
  have D51 : Def l.prog w K mg base "_law_turned" 1 ["_law_bakery_here", "_law_times", "_law_more"] (spTurned K) := ⟨_, _, PySem.W.mg_of X G a51, k51, b51, ok_turned F51 ⟩
  have D52 : Def l.prog w K mg base "_law_small" 1 ["_law_bakery_here"] (spSmall K) := ⟨_, _, PySem.W.mg_of X G a52, k52, b52, ok_small F52 ⟩
  have D53 : Def l.prog w K mg base "_law_ahead" 1 ["_law_bakery_here", "_law_digits"] (spAhead K) := ⟨_, _, PySem.W.mg_of X G a53, k53, b53, ok_ahead F53 ⟩
  exact ok_law F54 B D50 D52 D46 D47 D24 D35 D51 D33 D30 D28 D38 D45 D53
end Bk
open PySem PySem.W PyProof.Rows
set_option maxHeartbeats 0 in
theorem PySem.Challenge.cw_bakeahead_k86_whole_prices_times_and_mor_holds : PySem.Challenge.rw_bakeahead_k86_whole_prices_times_and_mor.Holds := by
  w_on; o_law; k_head; (case hw => w_witness2)
  k_fill
  refine L2.walk_of (l := PySem.Challenge.rw_bakeahead_k86_whole_prices_times_and_mor) (n := 63) (k := 12) (x := "_law_script") (CX := fun _ => L2.CX0) (sp := fun w => Bk.spLaw _) rfl (by decide) rfl ⟨rfl, by decide, by decide⟩ (fun w h Y => PySem.W.kIn_of Y) ?F (fun _ _ a ns hl _ hS => ⟨a, ns, rfl, hS, hl, fun _ => rfl⟩) (fun _ _ _ _ _ h => h)
  case F =>
    intro w mg fa h KX G hmg
    refine' Bk.all_mk KX G hmg ?a1 ?l1 ?c1 ?k1 ?a2 ?l2 ?c2 ?k2 ?a3 ?l3 ?c3 ?k3 ?a4 ?l4 ?c4 ?k4 ?a5 ?l5 ?c5 ?k5 ?a6 ?l6 ?c6 ?k6 ?a7 ?l7 ?c7 ?k7 ?a8 ?l8 ?c8 ?k8 ?a9 ?l9 ?c9 ?k9 ?a10 ?l10 ?c10 ?k10 ?a11 ?l11 ?c11 ?k11 ?a12 ?l12 ?c12 ?k12 ?a13 ?l13 ?c13 ?k13 ?a14 ?l14 ?c14 ?k14 ?a15 ?l15 ?c15 ?k15 ?a16 ?l16 ?c16 ?k16 ?a17 ?l17 ?c17 ?k17 ?a18 ?l18 ?c18 ?k18 ?a19 ?l19 ?c19 ?k19 ?a20 ?l20 ?c20 ?k20 ?a21 ?l21 ?c21 ?k21 ?a22 ?l22 ?c22 ?k22 ?a23 ?l23 ?c23 ?k23 ?a24 ?l24 ?c24 ?k24 ?a25 ?l25 ?c25 ?k25 ?a26 ?l26 ?c26 ?k26 ?a27 ?l27 ?c27 ?k27 ?a28 ?l28 ?c28 ?k28 ?a29 ?l29 ?c29 ?k29 ?a30 ?l30 ?c30 ?k30 ?a31 ?l31 ?c31 ?k31 ?a32 ?l32 ?c32 ?k32 ?a33 ?l33 ?c33 ?k33 ?a34 ?l34 ?c34 ?k34 ?a35 ?l35 ?c35 ?k35 ?a36 ?l36 ?c36 ?k36 ?a37 ?l37 ?c37 ?k37 ?a38 ?l38 ?c38 ?k38 ?a39 ?l39 ?c39 ?k39 ?a40 ?l40 ?c40 ?k40 ?a41 ?l41 ?c41 ?k41 ?a42 ?l42 ?c42 ?k42 ?a43 ?l43 ?c43 ?k43 ?a44 ?l44 ?c44 ?k44 ?a45 ?l45 ?c45 ?k45 ?a46 ?l46 ?c46 ?k46 ?a47 ?l47 ?c47 ?k47 ?a48 ?l48 ?c48 ?k48 ?a49 ?l49 ?c49 ?k49 ?a50 ?l50 ?c50 ?k50 ?a51 ?l51 ?c51 ?k51 ?a52 ?l52 ?c52 ?k52 ?a53 ?l53 ?c53 ?k53 ?a54 ?l54 ?c54 ?k54 ?z_len ?z_max ?z_min ?z_range ?z_isinstance ?z_int ?z_bool ?z_list ?z_tuple ?z_all ?z_sum ?z_repr ?z_enumerate ?z_reversed ?z_sorted ?z_zip ?y_GREATEST ?y_MOST_DAYS ?y_MOST_GOODS ?y_LONGEST_LIFE
    (case a1 => k_is)
    (case l1 => k_is)
    (case c1 => k_is)
    (case k1 => k_is)
    (case a2 => k_is)
    (case l2 => k_is)
    (case c2 => k_is)
    (case k2 => k_is)
    (case a3 => k_is)
    (case l3 => k_is)
    (case c3 => k_is)
    (case k3 => k_is)
    (case a4 => k_is)
    (case l4 => k_is)
    (case c4 => k_is)
    (case k4 => k_is)
    (case a5 => k_is)
    (case l5 => k_is)
    (case c5 => k_is)
    (case k5 => k_is)
    (case a6 => k_is)
    (case l6 => k_is)
    (case c6 => k_is)
    (case k6 => k_is)
    (case a7 => k_is)
    (case l7 => k_is)
    (case c7 => k_is)
    (case k7 => k_is)
    (case a8 => k_is)
    (case l8 => k_is)
    (case c8 => k_is)
    (case k8 => k_is)
    (case a9 => k_is)
    (case l9 => k_is)
    (case c9 => k_is)
    (case k9 => k_is)
    (case a10 => k_is)
    (case l10 => k_is)
    (case c10 => k_is)
    (case k10 => k_is)
    (case a11 => k_is)
    (case l11 => k_is)
    (case c11 => k_is)
    (case k11 => k_is)
    (case a12 => k_is)
    (case l12 => k_is)
    (case c12 => k_is)
    (case k12 => k_is)
    (case a13 => k_is)
    (case l13 => k_is)
    (case c13 => k_is)
    (case k13 => k_is)
    (case a14 => k_is)
    (case l14 => k_is)
    (case c14 => k_is)
    (case k14 => k_is)
    (case a15 => k_is)
    (case l15 => k_is)
    (case c15 => k_is)
    (case k15 => k_is)
    (case a16 => k_is)
    (case l16 => k_is)
    (case c16 => k_is)
    (case k16 => k_is)
    (case a17 => k_is)
    (case l17 => k_is)
    (case c17 => k_is)
    (case k17 => k_is)
    (case a18 => k_is)
    (case l18 => k_is)
    (case c18 => k_is)
    (case k18 => k_is)
    (case a19 => k_is)
    (case l19 => k_is)
    (case c19 => k_is)
    (case k19 => k_is)
    (case a20 => k_is)
    (case l20 => k_is)
    (case c20 => k_is)
    (case k20 => k_is)
    (case a21 => k_is)
    (case l21 => k_is)
    (case c21 => k_is)
    (case k21 => k_is)
    (case a22 => k_is)
    (case l22 => k_is)
    (case c22 => k_is)
    (case k22 => k_is)
    (case a23 => k_is)
    (case l23 => k_is)
    (case c23 => k_is)
    (case k23 => k_is)
    (case a24 => k_is)
    (case l24 => k_is)
    (case c24 => k_is)
    (case k24 => k_is)
    (case a25 => k_is)
    (case l25 => k_is)
    (case c25 => k_is)
    (case k25 => k_is)
    (case a26 => k_is)
    (case l26 => k_is)
    (case c26 => k_is)
    (case k26 => k_is)
    (case a27 => k_is)
    (case l27 => k_is)
    (case c27 => k_is)
    (case k27 => k_is)
    (case a28 => k_is)
    (case l28 => k_is)
    (case c28 => k_is)
    (case k28 => k_is)
    (case a29 => k_is)
    (case l29 => k_is)
    (case c29 => k_is)
    (case k29 => k_is)
    (case a30 => k_is)
    (case l30 => k_is)
    (case c30 => k_is)
    (case k30 => k_is)
    (case a31 => k_is)
    (case l31 => k_is)
    (case c31 => k_is)
    (case k31 => k_is)
    (case a32 => k_is)
    (case l32 => k_is)
    (case c32 => k_is)
    (case k32 => k_is)
    (case a33 => k_is)
    (case l33 => k_is)
    (case c33 => k_is)
    (case k33 => k_is)
    (case a34 => k_is)
    (case l34 => k_is)
    (case c34 => k_is)
    (case k34 => k_is)
    (case a35 => k_is)
    (case l35 => k_is)
    (case c35 => k_is)
    (case k35 => k_is)
    (case a36 => k_is)
    (case l36 => k_is)
    (case c36 => k_is)
    (case k36 => k_is)
    (case a37 => k_is)
    (case l37 => k_is)
    (case c37 => k_is)
    (case k37 => k_is)
    (case a38 => k_is)
    (case l38 => k_is)
    (case c38 => k_is)
    (case k38 => k_is)
    (case a39 => k_is)
    (case l39 => k_is)
    (case c39 => k_is)
    (case k39 => k_is)
    (case a40 => k_is)
    (case l40 => k_is)
    (case c40 => k_is)
    (case k40 => k_is)
    (case a41 => k_is)
    (case l41 => k_is)
    (case c41 => k_is)
    (case k41 => k_is)
    (case a42 => k_is)
    (case l42 => k_is)
    (case c42 => k_is)
    (case k42 => k_is)
    (case a43 => k_is)
    (case l43 => k_is)
    (case c43 => k_is)
    (case k43 => k_is)
    (case a44 => k_is)
    (case l44 => k_is)
    (case c44 => k_is)
    (case k44 => k_is)
    (case a45 => k_is)
    (case l45 => k_is)
    (case c45 => k_is)
    (case k45 => k_is)
    (case a46 => k_is)
    (case l46 => k_is)
    (case c46 => k_is)
    (case k46 => k_is)
    (case a47 => k_is)
    (case l47 => k_is)
    (case c47 => k_is)
    (case k47 => k_is)
    (case a48 => k_is)
    (case l48 => k_is)
    (case c48 => k_is)
    (case k48 => k_is)
    (case a49 => k_is)
    (case l49 => k_is)
    (case c49 => k_is)
    (case k49 => k_is)
    (case a50 => k_is)
    (case l50 => k_is)
    (case c50 => k_is)
    (case k50 => k_is)
    (case a51 => k_is)
    (case l51 => k_is)
    (case c51 => k_is)
    (case k51 => k_is)
    (case a52 => k_is)
    (case l52 => k_is)
    (case c52 => k_is)
    (case k52 => k_is)
    (case a53 => k_is)
    (case l53 => k_is)
    (case c53 => k_is)
    (case k53 => k_is)
    (case a54 => k_is)
    (case l54 => k_is)
    (case c54 => k_is)
    (case k54 => k_is)
    (case z_len => k_is)
    (case z_max => k_is)
    (case z_min => k_is)
    (case z_range => k_is)
    (case z_isinstance => k_is)
    (case z_int => k_is)
    (case z_bool => k_is)
    (case z_list => k_is)
    (case z_tuple => k_is)
    (case z_all => k_is)
    (case z_sum => k_is)
    (case z_repr => k_is)
    (case z_enumerate => k_is)
    (case z_reversed => k_is)
    (case z_sorted => k_is)
    (case z_zip => k_is)
    (case y_GREATEST => k_is)
    (case y_MOST_DAYS => k_is)
    (case y_MOST_GOODS => k_is)
    (case y_LONGEST_LIFE => k_is)


