import PyProof.Rows.All
import Wide.All
import OpenK.AllK
import Wide.FinOn
import HandS.Base
import HandS.Call
import HandS.List
import HandS.Comp
import HandS.Ends
import HandS.Dict
import HandS.Iter
import HandS.Text
import HandS.Words
import HandS.WordsList
import HandS.Wide
import HandS.IsInst
import HandS.Walk
import HandS.Style
import HandS.NoneIn
import HandS.EndBits
import PyProof.ReprRoads
import PyProof.ReprLen
import HandS.Sort
import HandS.Conv
import HandS.RevRange
import HandS.Exc
import HandS.ExcInit
import HandS.Nested
import KE.KExcSuper
import KE.KSuper
import HandS.WideBits
import HandS.More
import HandS.Small
import HandS.ForExc
import HandS.ExcOwn
import HandS.TryOnly
import HandS.FStr
import HandS.WordsExc
import PyProof.FString2
import PyProof.Rows.SeqMore
import PyProof.NeKinds
import HandS.TupAny
import HandS.SortKw
import HandS.SortInts
import PyProof.MinMaxWalk
import PyProof.WalkInts
import HandS.SetFor
import HandS.Strs
import HandS.TupSets
import KE.SortData
import KE.GoesSet
import KE.GoesMore
import HandS.ExcValue
import KE.KDictZip
import HandS.Codes
import HandS.Defaults
import HandS.Zip
import HandS.ExcIs
import KE.KExcIs
import HandS.ExcField
import HandS.RaiseMore
import KE.KEqDeep
import PyProof.StrLawsRepr
import PyProof.EqAt
import HandS.Deep
import KE.DataFind
import HandS.TupLe
import HandS.CallSlots
import PySem.Challenge.RW_bakeahead_k37_a_ledger_refuses
set_option Elab.async false
set_option linter.all false
set_option maxRecDepth 100000
set_option maxHeartbeats 4000000
namespace Bk
open PySem PySem.Spec PyProof.Rows L2
/-! ### a def of the text with its promise -/
structure Def (P : Program) (w : World) (K : PySem.W.Frag) (mg : Str → Option Value) (base : Heap) (x : Str) (k : Nat) (ps : List Str) (sp : Sp) : Prop where
  ex : ∃ (f : Addr) (fd : FuncData), mg x = some (.ref f) ∧ PySem.W.keepIn K (.ref f) = true ∧ Binds K fd ps [] ∧ FnOk P w K mg base CX0 k f fd ps sp
theorem pe_callD {X : Cx} {x : Str} {k j : Nat} {ps : List Str} {sp : Sp} {e : Expr} {es : List Expr} {t : TA} {p pos : Pos} (D : Def X.prog X.w X.K X.mg X.base x k ps sp) (hr : Room j X.A) (hg : Gl X x) (ha : PA X (e :: es) t)
    (hkj : k ≤ j := by omega) (hdb : (x == ("__debug__" : Str)) = false := by decide) (he : starEach (e :: es) X.env = (false, eval e X.env) :: starEach es X.env := by rfl) (hpl : (backTo pos (starEach es X.env)).any (·.1) = false := by rfl) :
    PE X (.Call (.Name x p) (e :: es) [] pos) (tCall sp [] E0 t) := by
  obtain ⟨f, fd, hm, hk, hb, F⟩ := D.ex
  exact pe_call F (hr.mono hkj) hg hm hk hb .nil pass0 ha hdb he hpl
theorem same_upd {H : Hp} {p : Addr} {o : HO} (h : H p = none) : Same H (upd H p o) := fun b x e => by
  rw [upd_ne (ne_of_none e h)]
  exact e
/-- what H does not know may change -/
theorem same_mut {H H' : Hp} {p : Addr} {o : HO} (e : Same H H') (h : H p = none) : Same H (upd H' p o) := fun b x q => by
  rw [upd_ne (ne_of_none q h)]
  exact e b x q
theorem _root_.L2.SqL.upd_ {K : PySem.W.Frag} {H : Hp} {a p : Addr} {o : HO} {xs : List V} (h : SqL K H a xs) (hp : H p = none) : SqL K (upd H p o) a xs := (same_upd hp).seq h
theorem Same.tup {K : PySem.W.Frag} {H H' : Hp} {a : Addr} {xs : List V} (e : Same H H') (h : SqT K H a xs) : SqT K H' a xs := by
  rcases h with (h | ⟨o, h⟩) | h
  · exact .inl (.inl (e _ _ h))
  · exact .inl (.inr ⟨o, e _ _ h⟩)
  · exact .inr h
/-- the written part of a def's place -/
theorem cxK {CX : CXT} {P : Program} {w : World} {K : PySem.W.Frag} {mg : Str → Option Value} {base : Heap} {N : List Str} {qual : Str} {scope : Scope} {f : Addr} {cd : Value} {A : Around} {outer : List Env} {s : Shared} {H : Hp} {E : XK} :
    (cxOf CX P w K mg base N qual scope f cd A outer s H E).K = K := rfl
theorem rI_ii {C : Int → Int → Prop} {g : Int → Int → V} {i j : Int} {H : Hp} {Q : VK} : rI C g (.int i) (.int j) H Q = (C i j ∧ Q (g i j) H) := propext ⟨fun ⟨a, b, e1, e2, h⟩ => by cases e1; cases e2; exact h, fun h => ⟨i, j, rfl, rfl, h⟩⟩
theorem rI0_ii {g : Int → Int → V} {i j : Int} {H : Hp} {Q : VK} : rI0 g (.int i) (.int j) H Q = Q (g i j) H := propext ⟨fun ⟨a, b, e1, e2, h⟩ => by cases e1; cases e2; exact h, fun h => ⟨i, j, rfl, rfl, h⟩⟩
theorem rU_i {g : Int → V} {i : Int} {H : Hp} {Q : VK} : rU g (.int i) H Q = Q (g i) H := propext ⟨fun ⟨a, e1, h⟩ => by cases e1; exact h, fun h => ⟨i, rfl, h⟩⟩
theorem rIxL_r {K : PySem.W.Frag} {p : Addr} {i : Int} {H : Hp} {Q : VK} : rIxL K (.ref p) (.int i) H Q = ∃ xs v, SqL K H p xs ∧ atI xs i = some v ∧ Q v H := propext ⟨fun ⟨a, xs, b, v, e1, e2, h⟩ => by cases e1; cases e2; exact ⟨xs, v, h⟩, fun ⟨xs, v, h⟩ => ⟨p, xs, i, v, rfl, rfl, h⟩⟩
theorem rIxT_r {K : PySem.W.Frag} {p : Addr} {i : Int} {H : Hp} {Q : VK} : rIxT K (.ref p) (.int i) H Q = ∃ xs v, SqT K H p xs ∧ atI xs i = some v ∧ Q v H := propext ⟨fun ⟨a, xs, b, v, e1, e2, h⟩ => by cases e1; cases e2; exact ⟨xs, v, h⟩, fun ⟨xs, v, h⟩ => ⟨p, xs, i, v, rfl, rfl, h⟩⟩
theorem rAppend_r {l : Addr} {y : V} {H : Hp} {Q : VK} : rAppend (.ref l) [y] H Q = ∃ xs, H l = some (.lst xs) ∧ xs.length < sizeLine ∧ Q .non (upd H l (.lst (xs ++ [y]))) :=
  propext ⟨fun ⟨a, xs, b, e1, e2, h⟩ => by cases e1; cases e2; exact ⟨xs, h⟩, fun ⟨xs, h⟩ => ⟨l, xs, y, rfl, rfl, h⟩⟩
theorem tyL {K : PySem.W.Frag} {l : Addr} {H : Hp} {xs : List V} (h : SqL K H l xs) : tyV K "list" (.ref l) H := .inl ⟨rfl, xs, h⟩
theorem atI_of {α : Type} {xs : List α} {i : Int} {v : α} (h0 : 0 ≤ i) (h : xs[i.toNat]? = some v) : atI xs i = some v := by
  have e : i = ((i.toNat : Nat) : Int) := by omega
  rw [e]
  exact atI_nat h
theorem atI_map {α : Type} {f : α → V} {xs : List α} {i : Int} {v : α} (h0 : 0 ≤ i) (h : xs[i.toNat]? = some v) : atI (xs.map f) i = some (f v) := atI_of h0 (by rw [List.getElem?_map, h]; rfl)
theorem sz100 {n : Nat} (h : n ≤ 100000) : n ≤ sizeLine := Nat.le_trans h (by decide)
theorem sz100l {n : Nat} (h : n < 100000) : n < sizeLine := Nat.lt_of_lt_of_le h (by decide)
/-! ### calls of built-ins by named readings -/
def rMx : List V → Hp → VK → Prop := fun xs H Q => ∃ i j, xs = [.int i, .int j] ∧ Q (.int (if j > i then j else i)) H
def rMn : List V → Hp → VK → Prop := fun xs H Q => ∃ i j, xs = [.int i, .int j] ∧ Q (.int (if j < i then j else i)) H
theorem call_mx {X : Cx} (hc : X.calm = true) : CallR X (.builtin "max") rMx := call_max2 hc
theorem call_mn {X : Cx} (hc : X.calm = true) : CallR X (.builtin "min") rMn := call_min2 hc
theorem rMx_ii {i j : Int} {H : Hp} {Q : VK} : rMx [.int i, .int j] H Q = Q (.int (if j > i then j else i)) H := propext ⟨fun ⟨a, b, e, h⟩ => by cases e; exact h, fun h => ⟨i, j, rfl, h⟩⟩
theorem rMn_ii {i j : Int} {H : Hp} {Q : VK} : rMn [.int i, .int j] H Q = Q (.int (if j < i then j else i)) H := propext ⟨fun ⟨a, b, e, h⟩ => by cases e; exact h, fun h => ⟨i, j, rfl, h⟩⟩
/-- len of a list, of a tuple -/
def rLnL (K : PySem.W.Frag) : List V → Hp → VK → Prop := fun xs H Q => ∃ p ys, xs = [.ref p] ∧ SqL K H p ys ∧ Q (.int ys.length) H
def rLnT (K : PySem.W.Frag) : List V → Hp → VK → Prop := fun xs H Q => ∃ p ys, xs = [.ref p] ∧ SqT K H p ys ∧ Q (.int ys.length) H
theorem call_lnL {X : Cx} : CallR X (.builtin "len") (rLnL X.K) := fun pins s σ H xs us Q I r ⟨p, ys, e, h, q⟩ => call_len_seq pins s σ H xs us Q I r ⟨p, ys, e, .inl h, q⟩
theorem call_lnT {X : Cx} : CallR X (.builtin "len") (rLnT X.K) := fun pins s σ H xs us Q I r ⟨p, ys, e, h, q⟩ => call_len_seq pins s σ H xs us Q I r ⟨p, ys, e, .inr h, q⟩
theorem rLnL_r {K : PySem.W.Frag} {p : Addr} {H : Hp} {Q : VK} : rLnL K [.ref p] H Q = ∃ ys, SqL K H p ys ∧ Q (.int ys.length) H := propext ⟨fun ⟨a, ys, e, h⟩ => by cases e; exact ⟨ys, h⟩, fun ⟨ys, h⟩ => ⟨p, ys, rfl, h⟩⟩
theorem rLnT_r {K : PySem.W.Frag} {p : Addr} {H : Hp} {Q : VK} : rLnT K [.ref p] H Q = ∃ ys, SqT K H p ys ∧ Q (.int ys.length) H := propext ⟨fun ⟨a, ys, e, h⟩ => by cases e; exact ⟨ys, h⟩, fun ⟨ys, h⟩ => ⟨p, ys, rfl, h⟩⟩
/-! ### any thing, as data -/
mutual
inductive Th (K : PySem.W.Frag) (H : Hp) : V → PyData → Prop
  | non : Th K H .non .none
  | bl (b : Bool) : Th K H (.bl b) (.bool b)
  | int (i : Int) : Th K H (.int i) (.int i)
  | str (x : Str) : Th K H (.str x) (.str x)
  | lst {a : Addr} {xs : List V} {ds : List PyData} : SqL K H a xs → ThAll K H xs ds → Th K H (.ref a) (.list ds)
  | tup {a : Addr} {xs : List V} {ds : List PyData} : SqT K H a xs → ThAll K H xs ds → Th K H (.ref a) (.tuple ds)
  | dic {a : Addr} : H a = some (.dK []) → Th K H (.ref a) (.dict [])
inductive ThAll (K : PySem.W.Frag) (H : Hp) : List V → List PyData → Prop
  | nil : ThAll K H [] []
  | cons {v : V} {vs : List V} {d : PyData} {ds : List PyData} : Th K H v d → ThAll K H vs ds → ThAll K H (v :: vs) (d :: ds)
end

mutual
theorem Th.same {K : PySem.W.Frag} {H H' : Hp} (e : Same H H') : ∀ {v : V} {d : PyData}, Th K H v d → Th K H' v d
  | _, _, .non => .non
  | _, _, .bl b => .bl b
  | _, _, .int i => .int i
  | _, _, .str x => .str x
  | _, _, .lst h t => .lst (e.seq h) (ThAll.same e t)
  | _, _, .tup h t => .tup (Same.tup e h) (ThAll.same e t)
  | _, _, .dic h => .dic (e _ _ h)
theorem ThAll.same {K : PySem.W.Frag} {H H' : Hp} (e : Same H H') : ∀ {vs : List V} {ds : List PyData}, ThAll K H vs ds → ThAll K H' vs ds
  | _, _, .nil => .nil
  | _, _, .cons h t => .cons (Th.same e h) (ThAll.same e t)
end
theorem ThAll.length {K : PySem.W.Frag} {H : Hp} : ∀ {vs : List V} {ds : List PyData}, ThAll K H vs ds → vs.length = ds.length
  | _, _, .nil => rfl
  | _, _, .cons _ t => by rw [List.length_cons, List.length_cons, ThAll.length t]
theorem ThAll.get {K : PySem.W.Frag} {H : Hp} : ∀ {vs : List V} {ds : List PyData} {i : Nat} {v : V}, ThAll K H vs ds → vs[i]? = some v → ∃ d, ds[i]? = some d ∧ Th K H v d
  | _, _, _, _, .nil, e => by simp at e
  | _, _, 0, _, .cons h _, e => by
    rw [List.getElem?_cons_zero] at e
    cases e
    exact ⟨_, List.getElem?_cons_zero .., h⟩
  | _, _, i + 1, _, .cons _ t, e => by
    rw [List.getElem?_cons_succ] at e
    obtain ⟨d, h1, h2⟩ := ThAll.get t e
    exact ⟨d, by rw [List.getElem?_cons_succ]; exact h1, h2⟩
theorem ThAll.get' {K : PySem.W.Frag} {H : Hp} {vs : List V} {ds : List PyData} {i : Nat} {d : PyData} (t : ThAll K H vs ds) (e : ds[i]? = some d) : ∃ v, vs[i]? = some v ∧ Th K H v d := by
  have hi : i < vs.length := by
    rw [t.length]
    exact (List.getElem?_eq_some_iff.mp e).1
  obtain ⟨d', h1, h2⟩ := t.get (List.getElem?_eq_getElem hi)
  have e2 : d' = d := Option.some.inj (h1.symm.trans e)
  subst e2
  exact ⟨_, List.getElem?_eq_getElem hi, h2⟩
theorem ThAll.ints {K : PySem.W.Frag} {H : Hp} : ∀ ns : List Int, ThAll K H (ns.map V.int) (ns.map PyData.int)
  | [] => .nil
  | n :: r => .cons (.int n) (ThAll.ints r)
/-- the built-in classes that are asked for -/
inductive Cl | int | bool | list | tuple | str | dict
def Cl.name : Cl → String
  | .int => "int" | .bool => "bool" | .list => "list" | .tuple => "tuple" | .str => "str" | .dict => "dict"
def kindD : PyData → String
  | .none => "NoneType" | .bool _ => "bool" | .int _ => "int" | .str _ => "str" | .list _ => "list" | .tuple _ => "tuple" | .dict _ => "dict"
def isD : Cl → PyData → Bool
  | .int, .int _ => true
  | .int, .bool _ => true
  | .bool, .bool _ => true
  | .list, .list _ => true
  | .tuple, .tuple _ => true
  | .str, .str _ => true
  | .dict, .dict _ => true
  | _, _ => false
def isN (c : Cl) (n : String) : Bool := n == c.name || (n == "bool" && c.name == "int")
theorem isN_kit : ∀ (c : Cl), ∀ n ∈ ["NoneType", "bool", "int", "str", "list", "tuple", "dict"], kitB n c.name = some (isN c n) := by
  intro c
  cases c <;> decide +kernel
theorem kindD_mem (d : PyData) : kindD d ∈ ["NoneType", "bool", "int", "str", "list", "tuple", "dict"] := by cases d <;> simp [kindD]
theorem isN_tab : ∀ c : Cl, isN c "NoneType" = isD c .none ∧ isN c "bool" = isD c (.bool true) ∧ isN c "int" = isD c (.int 0) ∧ isN c "str" = isD c (.str "") ∧ isN c "list" = isD c (.list []) ∧ isN c "tuple" = isD c (.tuple []) ∧ isN c "dict" = isD c (.dict []) := by
  intro c
  cases c <;> decide +kernel
theorem isD_N (c : Cl) (d : PyData) : isN c (kindD d) = isD c d := by
  obtain ⟨h1, h2, h3, h4, h5, h6, h7⟩ := isN_tab c
  cases d with
  | none => exact h1
  | bool b => exact h2.trans (by cases c <;> rfl)
  | int i => exact h3.trans (by cases c <;> rfl)
  | str x => exact h4.trans (by cases c <;> rfl)
  | list x => exact h5.trans (by cases c <;> rfl)
  | tuple x => exact h6.trans (by cases c <;> rfl)
  | dict x => exact h7.trans (by cases c <;> rfl)
theorem isD_kit {K : PySem.W.Frag} (c : Cl) (d : PyData) : PySem.W.kitOne K (.type (kindD d)) (.type c.name) = some (isD c d) := by
  rw [← isD_N]
  exact kit_ty (isN_kit c _ (kindD_mem d))
theorem Th.ty {K : PySem.W.Frag} {H : Hp} {v : V} {d : PyData} (h : Th K H v d) : TyX K H v (.type (kindD d)) := by
  cases h with
  | non => exact .base .non
  | bl b => exact .base (.bl b)
  | int i => exact .base (.int i)
  | str x => exact .base (.str x)
  | lst h _ =>
    rcases h with (h | ⟨o, h⟩) | ⟨o, its, n, h, c, _⟩
    · exact .base (.lst h)
    · exact .base (.frz h)
    · exact .kList h c
  | tup h _ =>
    rcases h with (h | ⟨o, h⟩) | ⟨o, its, n, h, c, _⟩
    · exact .base (.tup h)
    · exact .fTuple h
    · exact .kTuple h c
  | dic h => exact .base (.dK h)
/-- isinstance(x, a built-in class) of any thing -/
def rIsD (K : PySem.W.Frag) (c : Cl) : List V → Hp → VK → Prop := fun xs H Q => ∃ x d, xs = [x, .ty c.name] ∧ Th K H x d ∧ Q (.bl (isD c d)) H
theorem call_isD {X : Cx} (c : Cl) : CallR X (.builtin "isinstance") (rIsD X.K c) := fun pins s σ H xs us Q I r ⟨x, d, e, h, q⟩ =>
  call_isi pins s σ H xs us Q I r ⟨x, .ty c.name, .type (kindD d), .type c.name, isD c d, e, .ty _, h.ty, isD_kit c d, q⟩
theorem rIsD_int {K : PySem.W.Frag} {x : V} {H : Hp} {Q : VK} : rIsD K .int [x, .ty "int"] H Q = ∃ d, Th K H x d ∧ Q (.bl (isD .int d)) H := propext ⟨fun ⟨y, d, e, h⟩ => by cases e; exact ⟨d, h⟩, fun ⟨d, h⟩ => ⟨x, d, rfl, h⟩⟩
theorem rIsD_bool {K : PySem.W.Frag} {x : V} {H : Hp} {Q : VK} : rIsD K .bool [x, .ty "bool"] H Q = ∃ d, Th K H x d ∧ Q (.bl (isD .bool d)) H := propext ⟨fun ⟨y, d, e, h⟩ => by cases e; exact ⟨d, h⟩, fun ⟨d, h⟩ => ⟨x, d, rfl, h⟩⟩
theorem rIsD_list {K : PySem.W.Frag} {x : V} {H : Hp} {Q : VK} : rIsD K .list [x, .ty "list"] H Q = ∃ d, Th K H x d ∧ Q (.bl (isD .list d)) H := propext ⟨fun ⟨y, d, e, h⟩ => by cases e; exact ⟨d, h⟩, fun ⟨d, h⟩ => ⟨x, d, rfl, h⟩⟩
theorem rIsD_tuple {K : PySem.W.Frag} {x : V} {H : Hp} {Q : VK} : rIsD K .tuple [x, .ty "tuple"] H Q = ∃ d, Th K H x d ∧ Q (.bl (isD .tuple d)) H := propext ⟨fun ⟨y, d, e, h⟩ => by cases e; exact ⟨d, h⟩, fun ⟨d, h⟩ => ⟨x, d, rfl, h⟩⟩
def wholeD : PyData → Bool
  | .int _ => true
  | _ => false
def numD : PyData → Bool
  | .int i => decide (0 ≤ i) && decide (i ≤ 1000000000)
  | _ => false
theorem wholeD_is (d : PyData) : (isD .int d && !isD .bool d) = wholeD d := by cases d <;> rfl
theorem pe_globI {X : Cx} {x : Str} {i : Int} {t : Tok} {pos : Pos} (hg : Gl X x) (hm : X.mg x = some (.int i t)) (hd : (x == ("__debug__" : Str)) = false := by decide) : PE X (.Name x pos) (tC (.int i)) := pe_glob hg hm ⟨_, rfl⟩ hd
/-- isinstance(x, int) and not isinstance(x, bool) -/
theorem e_whole {K : PySem.W.Frag} {i j : Nat} {σ : L2.St} {H : Hp} {x : V} {d : PyData} {Q : VK} (hx : Th K H x d) (hi : σ[i]? = some (some x)) (hj : σ[j]? = some (some x)) (q : Q (.bl (wholeD d)) H) :
    tAndV (tCB (rIsD K .int) (tCons (tVar i) (tCons (tC (.ty "int")) tNil))) (tNotV (tCB (rIsD K .bool) (tCons (tVar j) (tCons (tC (.ty "bool")) tNil)))) σ H Q := by
  refine ⟨x, hi, x, d, rfl, hx, isD .int d, rfl, ite2 (fun h => ⟨x, hj, x, d, rfl, hx, isD .bool d, rfl, ?_⟩) (fun h => ?_)⟩
  · rw [← wholeD_is, h] at q
    exact q
  · rw [← wholeD_is, Bool.eq_false_iff.mpr h] at q
    exact q
theorem gCons_c {t : TG} {u : TGs} {v : V} {r : List V} {σ : L2.St} {H : Hp} {Q : L2.St → Hp → Prop} : gCons t u (v :: r) σ H Q = t v σ H fun σ' H' => u r σ' H' Q := propext ⟨fun ⟨a, b, e, h⟩ => by cases e; exact h, fun h => ⟨v, r, rfl, h⟩⟩
theorem gNil_n {σ : L2.St} {H : Hp} {Q : L2.St → Hp → Prop} : gNil [] σ H Q = Q σ H := propext ⟨fun h => h.2, fun h => ⟨rfl, h⟩⟩
/-! ### loops and comprehensions, kept shut -/
def LoopR (J : It) (g : TG) (tb : TS) (D : Ends) (σ : L2.St) (H : Hp) : Prop := ∃ W : Nat → Nat → L2.St → Hp → Prop, (∃ m, W 0 m σ H) ∧ ∀ i m σ H, W i m σ H →
  (J.stop i H ∧ D.nx σ H) ∨ (J.go i H ∧ ∃ N : L2.St → Hp → Prop, (∀ σ' H', N σ' H' → ∃ m', m' < m ∧ W (i + 1) m' σ' H') ∧ ∀ x H', J.yld i H x H' → g x σ H' fun σ2 H2 => tb { D with nx := N, ct := N, bk := D.nx } σ2 H2)
theorem tFor_eq {wi : TI} {g : TG} {tb : TS} {D : Ends} {σ : L2.St} {H : Hp} : tFor wi g tb D σ H = wi σ H fun J H1 => LoopR J g tb D σ H1 := rfl
theorem LoopR.by {J : It} {n : Nat} {G : Hp → Prop} {Y : Nat → Hp → V → Hp → Prop} (w : Walk J n G Y) {g : TG} {tb : TS} {D : Ends} {σ : L2.St} {H : Hp} (Pv : Nat → L2.St → Hp → Prop) (h0 : Pv 0 σ H) (hG : ∀ i σ H, i ≤ n → Pv i σ H → G H)
    (hs : ∀ i x σ H H', i < n → Pv i σ H → Y i H x H' → g x σ H' fun σ2 H2 => tb { D with nx := Pv (i + 1), ct := Pv (i + 1), bk := D.nx } σ2 H2) (hd : ∀ σ H, Pv n σ H → D.nx σ H) : LoopR J g tb D σ H := for_it w Pv h0 hG hs hd
def LcR (J : It) (g : TG) (tt : TT) (te : TE) (vs : List Nat) (σ : L2.St) (D : Addr) (H1 : Hp) (Qd : Hp → Prop) : Prop := ∃ W : Nat → Nat → Hp → Prop, (∃ m, W 0 m (upd H1 D (.lst []))) ∧ ∀ i m H, W i m H →
  (J.stop i H ∧ Qd H) ∨ (J.go i H ∧ ∃ Nx : Hp → Prop, (∀ H', Nx H' → ∃ m', m' < m ∧ W (i + 1) m' H') ∧ ∀ x H', J.yld i H x H' → g x (wipe σ vs) H' fun σ2 H2 => wipe σ2 vs = wipe σ vs ∧ tt σ2 H2 fun b H3 =>
    if b = true then te σ2 H3 fun y H4 => ∃ acc, H4 D = some (.lst acc) ∧ acc.length < sizeLine ∧ Nx (upd H4 D (.lst (acc ++ [y]))) else Nx H3)
theorem tLc_eq {wi : TI} {g : TG} {tt : TT} {te : TE} {vs : List Nat} {σ : L2.St} {H : Hp} {Q : VK} : tLc wi g tt te vs σ H Q = wi σ H fun J H1 => ∀ D, H1 D = none → LcR J g tt te vs σ D H1 (fun H => Q (.ref D) H) := rfl
theorem LcR.by {J : It} {n : Nat} {G : Hp → Prop} {Y : Nat → Hp → V → Hp → Prop} (w : Walk J n G Y) {g : TG} {tt : TT} {te : TE} {vs : List Nat} {σ : L2.St} {H1 : Hp} {D : Addr} {Qd : Hp → Prop} (Pv : Nat → Hp → Prop) (h0 : Pv 0 (upd H1 D (.lst []))) (hG : ∀ i H, i ≤ n → Pv i H → G H)
    (hs : ∀ i x H H', i < n → Pv i H → Y i H x H' → g x (wipe σ vs) H' fun σ2 H2 => wipe σ2 vs = wipe σ vs ∧ tt σ2 H2 fun b H3 =>
      if b = true then te σ2 H3 fun y H4 => ∃ acc, H4 D = some (.lst acc) ∧ acc.length < sizeLine ∧ Pv (i + 1) (upd H4 D (.lst (acc ++ [y]))) else Pv (i + 1) H3) (hd : ∀ H, Pv n H → Qd H) : LcR J g tt te vs σ D H1 Qd := lc_it w Pv h0 hG hs hd
theorem gTup_r {K : PySem.W.Frag} {n : Nat} {t : TGs} {a : Addr} {σ : L2.St} {H : Hp} {Q : L2.St → Hp → Prop} : gTup K n t (.ref a) σ H Q = ∃ xs, SqT K H a xs ∧ xs.length = n ∧ t xs σ H Q := propext ⟨fun ⟨b, xs, e, h⟩ => by cases e; exact ⟨xs, h⟩, fun ⟨xs, h⟩ => ⟨a, xs, rfl, h⟩⟩
def rEnum (K : PySem.W.Frag) (vs : List V) (H1 : Hp) (R : It → Hp → Prop) : Prop := ∃ a xs, vs = [.ref a] ∧ SqL K H1 a xs ∧ R (Ite K a) H1
theorem iEnum_eq {K : PySem.W.Frag} {ta : TA} {σ : L2.St} {H : Hp} {R : It → Hp → Prop} : iEnum K ta σ H R = ta σ H fun vs H1 => rEnum K vs H1 R := rfl
theorem rEnum_r {K : PySem.W.Frag} {a : Addr} {H : Hp} {R : It → Hp → Prop} : rEnum K [.ref a] H R = ∃ xs, SqL K H a xs ∧ R (Ite K a) H := propext ⟨fun ⟨b, xs, e, h⟩ => by cases e; exact ⟨xs, h⟩, fun ⟨xs, h⟩ => ⟨a, xs, rfl, h⟩⟩
def rZip (K : PySem.W.Frag) (vs : List V) (H1 : Hp) (R : It → Hp → Prop) : Prop := ∃ a b xs ys, vs = [.ref a, .ref b] ∧ SqL K H1 a xs ∧ SqL K H1 b ys ∧ R (Itz K a b) H1
theorem iZip_eq {K : PySem.W.Frag} {ta : TA} {σ : L2.St} {H : Hp} {R : It → Hp → Prop} : iZip K ta σ H R = ta σ H fun vs H1 => rZip K vs H1 R := rfl
theorem rZip_r {K : PySem.W.Frag} {a b : Addr} {H : Hp} {R : It → Hp → Prop} : rZip K [.ref a, .ref b] H R = ∃ xs ys, SqL K H a xs ∧ SqL K H b ys ∧ R (Itz K a b) H := propext ⟨fun ⟨_, _, xs, ys, e, h⟩ => by cases e; exact ⟨xs, ys, h⟩, fun ⟨xs, ys, h⟩ => ⟨a, b, xs, ys, rfl, h⟩⟩
def rRng1 (vs : List V) (H1 : Hp) (R : It → Hp → Prop) : Prop := ∃ j : Int, vs = [.int j] ∧ -(2 ^ 62) ≤ j ∧ j < 2 ^ 62 ∧ R (Itr 0 j.toNat) H1
theorem iRng1_eq {ta : TA} {σ : L2.St} {H : Hp} {R : It → Hp → Prop} : iRng1 ta σ H R = ta σ H fun vs H1 => rRng1 vs H1 R := rfl
theorem rRng1_i {j : Int} {H : Hp} {R : It → Hp → Prop} : rRng1 [.int j] H R = (-(2 ^ 62) ≤ j ∧ j < 2 ^ 62 ∧ R (Itr 0 j.toNat) H) := propext ⟨fun ⟨_, e, h⟩ => by cases e; exact h, fun h => ⟨j, rfl, h⟩⟩
def rRng2 (vs : List V) (H1 : Hp) (R : It → Hp → Prop) : Prop := ∃ i j : Int, vs = [.int i, .int j] ∧ (-(2 ^ 62) ≤ i ∧ i < 2 ^ 62 ∧ -(2 ^ 62) ≤ j ∧ j < 2 ^ 62) ∧ R (Itr i (j - i).toNat) H1
theorem iRng2_eq {ta : TA} {σ : L2.St} {H : Hp} {R : It → Hp → Prop} : iRng2 ta σ H R = ta σ H fun vs H1 => rRng2 vs H1 R := rfl
theorem rRng2_i {i j : Int} {H : Hp} {R : It → Hp → Prop} : rRng2 [.int i, .int j] H R = ((-(2 ^ 62) ≤ i ∧ i < 2 ^ 62 ∧ -(2 ^ 62) ≤ j ∧ j < 2 ^ 62) ∧ R (Itr i (j - i).toNat) H) := propext ⟨fun ⟨_, _, e, h⟩ => by cases e; exact h, fun h => ⟨i, j, rfl, h⟩⟩
theorem rSlL_r {K : PySem.W.Frag} {a : Addr} {lo hi : Option Int} {H : Hp} {Q : VK} : rSlL K (.ref a) lo hi H Q = ∃ xs, SqL K H a xs ∧ ∀ p, H p = none → Q (.ref p) (upd H p (.lst (cutV xs lo hi))) := propext ⟨fun ⟨_, xs, e, h⟩ => by cases e; exact ⟨xs, h⟩, fun ⟨xs, h⟩ => ⟨a, xs, rfl, h⟩⟩
theorem rCat_r {l b : Addr} {H : Hp} {Q : VK} : rCat (.ref l) (.ref b) H Q = ∃ xs zs, H l = some (.lst xs) ∧ H b = some (.lst zs) ∧ xs.length + zs.length ≤ sizeLine ∧ ∀ p, H p = none → Q (.ref p) (upd H p (.lst (xs ++ zs))) := propext ⟨fun ⟨_, _, xs, zs, e1, e2, h⟩ => by cases e1; cases e2; exact ⟨xs, zs, h⟩, fun ⟨xs, zs, h⟩ => ⟨l, b, xs, zs, rfl, rfl, h⟩⟩
end Bk

namespace Bk
open PySem PySem.Spec PyProof.Rows L2
/-! ### a comprehension without tests, by what each turn gives -/
theorem LcR.map {J : It} {n : Nat} {G : Hp → Prop} {Y : Nat → Hp → V → Hp → Prop} (w : Walk J n G Y) {g : TG} {te : TE} {vs : List Nat} {σ : L2.St} {H1 : Hp} {D : Addr} {Qd : Hp → Prop} (ys : List V) (hD : H1 D = none) (hn : ys.length = n) (hz : n ≤ 100000)
    (hG : ∀ H, Same H1 H → G H) (hY : ∀ i H x H', Y i H x H' → Same H H')
    (hs : ∀ i x y H H', i < n → Same H1 H' → Y i H x H' → ys[i]? = some y → ∀ R : V → Hp → Prop, (∀ H4, Same H' H4 → R y H4) → g x (wipe σ vs) H' fun σ2 H2 => wipe σ2 vs = wipe σ vs ∧ te σ2 H2 R)
    (hd : ∀ H, Same H1 H → H D = some (.lst ys) → Qd H) : LcR J g tYes te vs σ D H1 Qd := by
  refine LcR.by w (fun i H => Same H1 H ∧ H D = some (.lst (ys.take i))) ⟨same_upd hD, by rw [upd_same]; rfl⟩ (fun i H _ h => hG H h.1) (fun i x H H' hi h y => ?_) (fun H h => hd H h.1 ?_)
  · have s := hY _ _ _ _ y
    have e : ys[i]? = some (ys[i]'(by omega)) := List.getElem?_eq_getElem (by omega)
    refine hs i x _ H H' hi (h.1.trans s) y e _ fun H4 s4 => ?_
    have e4 := s4 _ _ (s _ _ h.2)
    refine ⟨_, e4, ?_, same_mut ((h.1.trans s).trans s4) hD, ?_⟩
    · rw [List.length_take]
      exact sz100l (by omega)
    · rw [upd_same, List.take_add_one, e]
      rfl
  · rw [← hn, List.take_length] at h
    exact h.2
theorem yat_same {xs : List V} {i : Nat} {H H' : Hp} {x : V} (y : YAt xs i H x H') : Same H H' := by
  rw [y.1]
  exact Same.refl H
theorem yfn_same {f : Nat → V} {i : Nat} {H H' : Hp} {x : V} (y : YFn f i H x H') : Same H H' := by
  rw [y.1]
  exact Same.refl H
theorem ypair_same {xs ys : Nat → Option V} {i : Nat} {H H' : Hp} {x : V} (y : YPair xs ys i H x H') : Same H H' := by
  obtain ⟨T, a, b, _, hT, e, _⟩ := y
  rw [e]
  exact same_upd hT
theorem rAll_r {K : PySem.W.Frag} {p : Addr} {H : Hp} {Q : VK} : rAll K [.ref p] H Q = ∃ bs : List Bool, SqL K H p (bs.map V.bl) ∧ Q (.bl (bs.all id)) H := propext ⟨fun ⟨a, bs, e, h⟩ => by cases e; exact ⟨bs, h⟩, fun ⟨bs, h⟩ => ⟨p, bs, rfl, h⟩⟩
theorem rSum_r {K : PySem.W.Frag} {p : Addr} {H : Hp} {Q : VK} : rSum K [.ref p] H Q = ∃ ns : List Int, SqL K H p (ns.map V.int) ∧ Q (.int ns.sum) H := propext ⟨fun ⟨a, bs, e, h⟩ => by cases e; exact ⟨bs, h⟩, fun ⟨bs, h⟩ => ⟨p, bs, rfl, h⟩⟩
/-! ### what a bakery is, as data -/
structure Day where
  want : Int
  loaf : Int
  keep : Int
  fine : Option Int
structure Good where
  days : List Day
  life : Option Int
structure Bak where
  lights : List Int
  bound : Option Int
  goods : List Good
def optD : Option Int → PyData
  | none => .none
  | some i => .int i
def dayD (d : Day) : PyData := .tuple [.int d.want, .int d.loaf, .int d.keep, optD d.fine]
def goodD (g : Good) : PyData := .tuple [.list (g.days.map dayD), optD g.life]
def bakD (b : Bak) : PyData := .tuple [.list (b.lights.map PyData.int), optD b.bound, .list (b.goods.map goodD)]
def tupB (n : Nat) : PyData → Bool
  | .tuple ds => decide (ds.length = n)
  | _ => false
def listB (lo hi : Nat) : PyData → Bool
  | .list ds => decide (lo ≤ ds.length) && decide (ds.length ≤ hi)
  | _ => false
def lightsB : PyData → Bool
  | .list ds => listB 1 40 (.list ds) && ds.all numD
  | _ => false
def boundB : PyData → Bool
  | .none => true
  | .int i => numD (.int i) && decide (1 ≤ i)
  | _ => false
def lifeB : PyData → Bool
  | .none => true
  | .int i => decide (0 ≤ i) && decide (i ≤ 40)
  | _ => false
def noneB : PyData → Bool
  | .none => true
  | _ => false
def dayB : PyData → Bool
  | .tuple [a, b, c, f] => (numD a && numD b && numD c) && (noneB f || numD f)
  | _ => false
def goodFormB (n : Nat) : PyData → Bool
  | .tuple [ds, l] => listB n n ds && lifeB l
  | _ => false
def bakFormB : PyData → Bool
  | .tuple [l, b, g] => lightsB l && (boundB b && listB 1 2 g)
  | _ => false
/-- a good of n days -/
def goodB (n : Nat) : PyData → Bool
  | .tuple [.list ds, l] => decide (ds.length = n) && lifeB l && ds.all dayB
  | _ => false
def bakB : PyData → Bool
  | .tuple [.list ls, b, .list gs] => lightsB (.list ls) && boundB b && listB 1 2 (.list gs) && gs.all (goodB ls.length)
  | _ => false
theorem Th.isNon {K : PySem.W.Frag} {H : Hp} {x : V} {d : PyData} (h : Th K H x d) : decide (x = V.non) = noneB d := by cases h <;> rfl
theorem qb {Q : VK} {H : Hp} {a b : Bool} (e : a = b) (q : Q (.bl b) H) : Q (.bl a) H := by
  rw [e]
  exact q
theorem two {α : Type} {l : List α} (h : l.length = 2) : ∃ a b, l = [a, b] := by
  match l, h with
  | [a, b], _ => exact ⟨a, b, rfl⟩
theorem three {α : Type} {l : List α} (h : l.length = 3) : ∃ a b c, l = [a, b, c] := by
  match l, h with
  | [a, b, c], _ => exact ⟨a, b, c, rfl⟩
theorem four {α : Type} {l : List α} (h : l.length = 4) : ∃ a b c d, l = [a, b, c, d] := by
  match l, h with
  | [a, b, c, d], _ => exact ⟨a, b, c, d, rfl⟩
theorem goodB_inv {n : Nat} {d : PyData} (h : goodB n d = true) : ∃ ds l, d = .tuple [.list ds, l] ∧ ds.length = n ∧ lifeB l = true ∧ ds.all dayB = true := by
  unfold goodB at h
  split at h
  · rename_i ds l
    rw [Bool.and_eq_true, Bool.and_eq_true] at h
    exact ⟨ds, l, rfl, of_decide_eq_true h.1.1, h.1.2, h.2⟩
  · cases h
theorem bakB_inv {d : PyData} (h : bakB d = true) : ∃ ls b gs, d = .tuple [.list ls, b, .list gs] ∧ lightsB (.list ls) = true ∧ boundB b = true ∧ listB 1 2 (.list gs) = true ∧ gs.all (goodB ls.length) = true := by
  unfold bakB at h
  split at h
  · rename_i ls b gs
    rw [Bool.and_eq_true, Bool.and_eq_true, Bool.and_eq_true] at h
    exact ⟨ls, b, gs, rfl, h.1.1.1, h.1.1.2, h.1.2, h.2⟩
  · cases h
/-- a bakery, part by part -/
theorem Th.bak {K : PySem.W.Frag} {H : Hp} {x : V} {b : Bak} (h : Th K H x (bakD b)) : ∃ (a l : Addr) (v : V) (g : Addr) (xl xg : List V), x = .ref a ∧ SqT K H a [.ref l, v, .ref g] ∧ SqL K H l xl ∧ ThAll K H xl (b.lights.map PyData.int) ∧ Th K H v (optD b.bound) ∧ SqL K H g xg ∧ ThAll K H xg (b.goods.map goodD) := by
  cases h with
  | tup ht hta =>
  cases hta with
  | cons t1 hta => cases hta with
  | cons t2 hta => cases hta with
  | cons t3 hta =>
  cases hta
  cases t1 with
  | lst h1 h2 =>
  cases t3 with
  | lst h3 h4 =>
  exact ⟨_, _, _, _, _, _, rfl, ht, h1, h2, t2, h3, h4⟩
def optV : Option Int → V
  | none => .non
  | some i => .int i
theorem Th.opt {K : PySem.W.Frag} {H : Hp} {v : V} {o : Option Int} (h : Th K H v (optD o)) : v = optV o := by
  cases o with
  | none =>
    cases h
    rfl
  | some i =>
    cases h
    rfl
theorem Th.optV {K : PySem.W.Frag} {H : Hp} (o : Option Int) : Th K H (Bk.optV o) (optD o) := by
  cases o with
  | none => exact .non
  | some i => exact .int i
theorem Th.day {K : PySem.W.Frag} {H : Hp} {x : V} {d : Day} (h : Th K H x (dayD d)) : ∃ t, x = .ref t ∧ SqT K H t [.int d.want, .int d.loaf, .int d.keep, Bk.optV d.fine] := by
  cases h with
  | tup ht hta =>
  cases hta with
  | cons t1 hta => cases hta with
  | cons t2 hta => cases hta with
  | cons t3 hta => cases hta with
  | cons t4 hta =>
  cases hta
  cases t1
  cases t2
  cases t3
  rw [t4.opt] at ht
  exact ⟨_, rfl, ht⟩
theorem Th.good {K : PySem.W.Frag} {H : Hp} {x : V} {g : Good} (h : Th K H x (goodD g)) : ∃ t a xs, x = .ref t ∧ SqT K H t [.ref a, Bk.optV g.life] ∧ SqL K H a xs ∧ ThAll K H xs (g.days.map dayD) := by
  cases h with
  | tup ht hta =>
  cases hta with
  | cons t1 hta => cases hta with
  | cons t2 hta =>
  cases hta
  cases t1 with
  | lst h1 h2 =>
  rw [t2.opt] at ht
  exact ⟨_, _, _, rfl, ht, h1, h2⟩
theorem ThAll.drop {K : PySem.W.Frag} {H : Hp} : ∀ {vs : List V} {ds : List PyData} (n : Nat), ThAll K H vs ds → ThAll K H (vs.drop n) (ds.drop n)
  | _, _, 0, h => h
  | _, _, _ + 1, .nil => .nil
  | _, _, n + 1, .cons _ t => ThAll.drop n t
theorem ThAll.take {K : PySem.W.Frag} {H : Hp} : ∀ {vs : List V} {ds : List PyData} (n : Nat), ThAll K H vs ds → ThAll K H (vs.take n) (ds.take n)
  | _, _, 0, _ => .nil
  | _, _, _ + 1, .nil => .nil
  | _, _, n + 1, .cons h t => .cons h (ThAll.take n t)
theorem ThAll.append {K : PySem.W.Frag} {H : Hp} : ∀ {vs ws : List V} {ds es : List PyData}, ThAll K H vs ds → ThAll K H ws es → ThAll K H (vs ++ ws) (ds ++ es)
  | _, _, _, _, .nil, h => h
  | _, _, _, _, .cons h t, h2 => .cons h (ThAll.append t h2)
theorem cutV_nat (xs : List V) (i j : Nat) : cutV xs (some (i : Int)) (some (j : Int)) = (xs.drop i).take (j - i) := by
  unfold cutV
  rw [HT.sIx_nat, HT.sIx_nat]
  by_cases hi : i ≤ xs.length
  · rw [Nat.min_eq_left hi]
    by_cases hj : j ≤ xs.length
    · rw [Nat.min_eq_left hj]
    · rw [Nat.min_eq_right (by omega), List.take_of_length_le (by rw [List.length_drop]; omega), List.take_of_length_le (by rw [List.length_drop]; omega)]
  · rw [show min i xs.length = xs.length by omega, List.drop_of_length_le (Nat.le_refl _), List.drop_of_length_le (show xs.length ≤ i by omega), List.take_nil, List.take_nil]
/-! ### the price of a loaf -/
def sumO : List (Option Int) → Option Int
  | [] => some 0
  | none :: _ => none
  | some x :: r => (sumO r).map (x + ·)
def keepsL (ds : List Day) (i j : Nat) : Int := (((ds.drop i).take (j - i)).map Day.keep).sum
def finesL (ds : List Day) (i j : Nat) : Option Int := sumO (((ds.drop i).take (j - i)).map Day.fine)
/-- a loaf of a good, baked on day j, given for day k -/
def loafP (g : Good) (j k : Nat) : Option Int := match g.days[j]? with
  | none => none
  | some d => if k < j then (finesL g.days k j).map (d.loaf + ·) else match g.life with
    | none => some (d.loaf + keepsL g.days j k)
    | some l => if l < (k : Int) - (j : Int) then none else some (d.loaf + keepsL g.days j k)
theorem sumO_none : ∀ {l : List (Option Int)}, inV .non (l.map optV) = true → sumO l = none
  | [], h => by cases h
  | none :: _, _ => rfl
  | some x :: r, h => by
    have h2 : inV .non (r.map optV) = true := by
      have h1 : (eqV (.int x) .non || inV .non (r.map optV)) = true := h
      simpa [eqV] using h1
    show (sumO r).map (x + ·) = none
    rw [sumO_none h2]
    rfl
theorem sumO_some : ∀ {l : List (Option Int)}, inV .non (l.map optV) = false → ∃ ns : List Int, l.map optV = ns.map V.int ∧ sumO l = some ns.sum
  | [], _ => ⟨[], rfl, rfl⟩
  | none :: r, h => by
    have h1 : (eqV .non .non || inV .non (r.map optV)) = false := h
    simp [eqV] at h1
  | some x :: r, h => by
    have h2 : inV .non (r.map optV) = false := by
      have h1 : (eqV (.int x) .non || inV .non (r.map optV)) = false := h
      simpa [eqV] using h1
    obtain ⟨ns, e1, e2⟩ := sumO_some h2
    refine ⟨x :: ns, ?_, ?_⟩
    · show V.int x :: r.map optV = V.int x :: ns.map V.int
      rw [e1]
    · show (sumO r).map (x + ·) = some (x :: ns).sum
      rw [e2, List.sum_cons]
      rfl
theorem rIn_r {K : PySem.W.Frag} {x : V} {p : Addr} {H : Hp} {Q : VK} : rIn K false x (.ref p) H Q = ∃ xs, (SqL K H p xs ∨ SqT K H p xs) ∧ flatV x = true ∧ xs.all flatV = true ∧ Q (.bl (inV x xs)) H :=
  propext ⟨fun ⟨_, xs, e, h⟩ => by cases e; exact ⟨xs, h⟩, fun ⟨xs, h⟩ => ⟨p, xs, rfl, h⟩⟩
theorem flat_opts (l : List (Option Int)) : (l.map optV).all flatV = true := by
  rw [List.all_eq_true]
  intro x hx
  obtain ⟨o, _, rfl⟩ := List.mem_map.mp hx
  cases o <;> rfl
end Bk

namespace Bk
open PySem PySem.Spec PyProof.Rows L2
/-! ### xs[a:b:c] of a list: some of its items -/
/-- the items of xs[l:u:st] -/
def stepV (xs : List V) (l u st : Option Int) : List V := (sliceRange (sliceBounds l u st xs.length).1 (sliceBounds l u st xs.length).2.1 (sliceBounds l u st xs.length).2.2).filterMap (xs[·]?)
def tStep (K : PySem.W.Frag) (te : TE) (tl th ts : TO) : TE := fun σ H Q => te σ H fun x H1 => tl σ H1 fun l H2 => th σ H2 fun u H3 => ts σ H3 fun st H4 => ∃ a xs, x = .ref a ∧ SqL K H4 a xs ∧ st ≠ some 0 ∧
  ∀ p, H4 p = none → Q (.ref p) (upd H4 p (.lst (stepV xs l u st)))
theorem tStep_r {K : PySem.W.Frag} {te : TE} {tl th ts : TO} {σ : L2.St} {H : Hp} {Q : VK} : tStep K te tl th ts σ H Q = te σ H fun x H1 => tl σ H1 fun l H2 => th σ H2 fun u H3 => ts σ H3 fun st H4 => ∃ a xs, x = .ref a ∧ SqL K H4 a xs ∧ st ≠ some 0 ∧
  ∀ p, H4 p = none → Q (.ref p) (upd H4 p (.lst (stepV xs l u st))) := rfl
/-! ### data in objects that are tracked as they are -/
mutual
inductive Tk (H : Hp) : V → PyData → Prop
  | non : Tk H .non .none
  | bl (b : Bool) : Tk H (.bl b) (.bool b)
  | int (i : Int) : Tk H (.int i) (.int i)
  | str (x : Str) : Tk H (.str x) (.str x)
  | lst {a : Addr} {xs : List V} {ds : List PyData} : H a = some (.lst xs) → TkAll H xs ds → Tk H (.ref a) (.list ds)
  | tup {a : Addr} {xs : List V} {ds : List PyData} : H a = some (.tup xs) → TkAll H xs ds → Tk H (.ref a) (.tuple ds)
  | dic {a : Addr} : H a = some (.dK []) → Tk H (.ref a) (.dict [])
inductive TkAll (H : Hp) : List V → List PyData → Prop
  | nil : TkAll H [] []
  | cons {v : V} {vs : List V} {d : PyData} {ds : List PyData} : Tk H v d → TkAll H vs ds → TkAll H (v :: vs) (d :: ds)
end

mutual
theorem Tk.th {K : PySem.W.Frag} {H : Hp} : ∀ {v : V} {d : PyData}, Tk H v d → Th K H v d
  | _, _, .non => .non
  | _, _, .bl b => .bl b
  | _, _, .int i => .int i
  | _, _, .str x => .str x
  | _, _, .lst h t => .lst (SqL.of h) (TkAll.th t)
  | _, _, .tup h t => .tup (SqT.of h) (TkAll.th t)
  | _, _, .dic h => .dic h
theorem TkAll.th {K : PySem.W.Frag} {H : Hp} : ∀ {vs : List V} {ds : List PyData}, TkAll H vs ds → ThAll K H vs ds
  | _, _, .nil => .nil
  | _, _, .cons h t => .cons (Tk.th h) (TkAll.th t)
end

mutual
theorem Tk.same {H H' : Hp} (e : Same H H') : ∀ {v : V} {d : PyData}, Tk H v d → Tk H' v d
  | _, _, .non => .non
  | _, _, .bl b => .bl b
  | _, _, .int i => .int i
  | _, _, .str x => .str x
  | _, _, .lst h t => .lst (e _ _ h) (TkAll.same e t)
  | _, _, .tup h t => .tup (e _ _ h) (TkAll.same e t)
  | _, _, .dic h => .dic (e _ _ h)
theorem TkAll.same {H H' : Hp} (e : Same H H') : ∀ {vs : List V} {ds : List PyData}, TkAll H vs ds → TkAll H' vs ds
  | _, _, .nil => .nil
  | _, _, .cons h t => .cons (Tk.same e h) (TkAll.same e t)
end
theorem TkAll.append {H : Hp} : ∀ {vs ws : List V} {ds es : List PyData}, TkAll H vs ds → TkAll H ws es → TkAll H (vs ++ ws) (ds ++ es)
  | _, _, _, _, .nil, h => h
  | _, _, _, _, .cons h t, h2 => .cons h (TkAll.append t h2)
theorem TkAll.take {H : Hp} : ∀ {vs : List V} {ds : List PyData} (n : Nat), TkAll H vs ds → TkAll H (vs.take n) (ds.take n)
  | _, _, 0, _ => .nil
  | _, _, _ + 1, .nil => .nil
  | _, _, n + 1, .cons h t => .cons h (TkAll.take n t)
theorem TkAll.length {H : Hp} : ∀ {vs : List V} {ds : List PyData}, TkAll H vs ds → vs.length = ds.length
  | _, _, .nil => rfl
  | _, _, .cons _ t => by rw [List.length_cons, List.length_cons, TkAll.length t]
theorem TkAll.get {H : Hp} : ∀ {vs : List V} {ds : List PyData} {i : Nat} {v : V}, TkAll H vs ds → vs[i]? = some v → ∃ d, ds[i]? = some d ∧ Tk H v d
  | _, _, _, _, .nil, e => by simp at e
  | _, _, 0, _, .cons h _, e => by
    rw [List.getElem?_cons_zero] at e
    cases e
    exact ⟨_, List.getElem?_cons_zero .., h⟩
  | _, _, i + 1, _, .cons _ t, e => by
    rw [List.getElem?_cons_succ] at e
    obtain ⟨d, h1, h2⟩ := TkAll.get t e
    exact ⟨d, by rw [List.getElem?_cons_succ]; exact h1, h2⟩
theorem TkAll.ints {H : Hp} : ∀ ns : List Int, TkAll H (ns.map V.int) (ns.map PyData.int)
  | [] => .nil
  | n :: r => .cons (.int n) (TkAll.ints r)
theorem Tk.optV {H : Hp} (o : Option Int) : Tk H (Bk.optV o) (optD o) := by
  cases o with
  | none => exact .non
  | some i => exact .int i
/-! ### what is new -/
/-- the part of H' that H doesn't know -/
def newOf (H H' : Hp) : Hp := fun b => if H b = none then H' b else none
theorem newOf_same (H H' : Hp) : Same (newOf H H') H' := fun b o e => by
  unfold newOf at e
  split at e
  · exact e
  · cases e
theorem newOf_at {H H' : Hp} {b : Addr} {o : HO} (h : H b = none) (e : H' b = some o) : newOf H H' b = some o := by
  unfold newOf
  rw [if_pos h]
  exact e
theorem newOf_mono {H H1 H2 : Hp} (s : Same H1 H2) : Same (newOf H H1) (newOf H H2) := fun b o e => by
  unfold newOf at e ⊢
  split at e
  · rename_i h
    rw [if_pos h]
    exact s b o e
  · cases e
/-- the new part, without two places -/
def newBut (H : Hp) (l m : Addr) (H' : Hp) : Hp := fun b => if b = l ∨ b = m then none else newOf H H' b
theorem newBut_mono {H H1 H2 : Hp} {l m : Addr} (s : ∀ b o, b ≠ l → b ≠ m → H1 b = some o → H2 b = some o) : Same (newBut H l m H1) (newBut H l m H2) := fun b o e => by
  unfold newBut at e ⊢
  split at e
  · cases e
  · rename_i h
    rw [if_neg h]
    have h2 := newOf_same _ _ b o e
    unfold newOf at e ⊢
    split at e
    · rename_i h3
      rw [if_pos h3]
      exact s b o (fun z => h (.inl z)) (fun z => h (.inr z)) h2
    · cases e
theorem newBut_same (H : Hp) (l m : Addr) (H' : Hp) : Same (newBut H l m H') (newOf H H') := fun b o e => by
  unfold newBut at e
  split at e
  · cases e
  · exact e
theorem newBut_at {H H' : Hp} {l m b : Addr} {o : HO} (h : H b = none) (h1 : b ≠ l) (h2 : b ≠ m) (e : H' b = some o) : newBut H l m H' b = some o := by
  unfold newBut
  rw [if_neg (fun z => z.elim h1 h2)]
  exact newOf_at h e
theorem gUnl_r {K : PySem.W.Frag} {n : Nat} {t : TGs} {a : Addr} {σ : L2.St} {H : Hp} {Q : L2.St → Hp → Prop} : gUnl K n t (.ref a) σ H Q = ∃ xs, SqL K H a xs ∧ xs.length = n ∧ t xs σ H Q := propext ⟨fun ⟨b, xs, e, h⟩ => by cases e; exact ⟨xs, h⟩, fun ⟨xs, h⟩ => ⟨a, xs, rfl, h⟩⟩
def rInt1 : List V → Hp → VK → Prop := fun xs H Q => (∃ i, xs = [.int i] ∧ Q (.int i) H) ∨ ∃ k, xs = [.bl k] ∧ Q (.int (if k then 1 else 0)) H
theorem call_in1 {X : Cx} : CallR X (.type "int") rInt1 := call_int1
theorem rInt1_b {k : Bool} {H : Hp} {Q : VK} : rInt1 [.bl k] H Q = Q (.int (if k then 1 else 0)) H := by
  refine propext ⟨fun h => ?_, fun h => .inr ⟨k, rfl, h⟩⟩
  rcases h with ⟨i, e, _⟩ | ⟨j, e, q⟩
  · cases e
  · cases e
    exact q
theorem rInt1_i {i : Int} {H : Hp} {Q : VK} : rInt1 [.int i] H Q = Q (.int i) H := by
  refine propext ⟨fun h => ?_, fun h => .inl ⟨i, rfl, h⟩⟩
  rcases h with ⟨j, e, q⟩ | ⟨j, e, _⟩
  · cases e
    exact q
  · cases e
theorem rRep_r {l : Addr} {k : Int} {H : Hp} {Q : VK} : rRep (.ref l) (.int k) H Q = ∃ xs, H l = some (.lst xs) ∧ -(2 ^ 63) ≤ k ∧ k < 2 ^ 63 ∧ xs.length * k.toNat ≤ sizeLine ∧ ∀ p, H p = none → Q (.ref p) (upd H p (.lst (List.replicate k.toNat xs).flatten)) :=
  propext ⟨fun ⟨_, _, xs, e1, e2, h⟩ => by cases e1; cases e2; exact ⟨xs, h⟩, fun ⟨xs, h⟩ => ⟨l, k, xs, rfl, rfl, h⟩⟩
theorem seven {α : Type} {l : List α} (h : l.length = 7) : ∃ a b c d e f g, l = [a, b, c, d, e, f, g] := by
  match l, h with
  | [a, b, c, d, e, f, g], _ => exact ⟨a, b, c, d, e, f, g, rfl⟩
def nDays (u m : Nat) : Nat := max 2 (min u m) - 1
theorem bakB_mk {b : Bak} (h1 : 1 ≤ b.lights.length) (h2 : b.lights.length ≤ 40) (h3 : ∀ z ∈ b.lights, numD (.int z) = true) (h4 : boundB (optD b.bound) = true) (h5 : 1 ≤ b.goods.length) (h6 : b.goods.length ≤ 2)
    (h7 : ∀ g ∈ b.goods, g.days.length = b.lights.length ∧ lifeB (optD g.life) = true ∧ ∀ d ∈ g.days, dayB (dayD d) = true) : bakB (bakD b) = true := by
  have e1 : (b.lights.map PyData.int).all numD = true := by
    rw [List.all_eq_true]
    intro x hx
    obtain ⟨z, hz, rfl⟩ := List.mem_map.mp hx
    exact h3 z hz
  have e2 : (b.goods.map goodD).all (goodB (b.lights.map PyData.int).length) = true := by
    rw [List.all_eq_true]
    intro x hx
    obtain ⟨g, hg, rfl⟩ := List.mem_map.mp hx
    obtain ⟨g1, g2, g3⟩ := h7 g hg
    have e3 : (g.days.map dayD).all dayB = true := by
      rw [List.all_eq_true]
      intro y hy
      obtain ⟨d, hd, rfl⟩ := List.mem_map.mp hy
      exact g3 d hd
    simp only [goodD, goodB, e3, g2, List.length_map, g1, decide_true, Bool.and_self]
  rw [List.length_map] at e2
  simp only [bakD, bakB, lightsB, listB, e1, e2, h4, List.length_map, h1, h2, h5, h6, decide_true, Bool.and_self]
theorem cutV_upto (xs : List V) (n : Nat) : cutV xs none (some (n : Int)) = xs.take n := by
  unfold cutV
  rw [HT.sIx_nat, HT.sIx_none, List.drop_zero, Nat.sub_zero]
  by_cases h : n ≤ xs.length
  · rw [Nat.min_eq_left h]
  · rw [Nat.min_eq_right (by omega), List.take_of_length_le (Nat.le_refl _), List.take_of_length_le (by omega)]
theorem Tk.opt {H : Hp} {v : V} {o : Option Int} (h : Tk H v (optD o)) : v = Bk.optV o := (h.th (K := [])).opt
/-- a bakery in tracked objects, part by part -/
theorem Tk.bak {H : Hp} {x : V} {b : Bak} (h : Tk H x (bakD b)) : ∃ (a l g : Addr) (xl xg : List V), x = .ref a ∧ H a = some (.tup [.ref l, Bk.optV b.bound, .ref g]) ∧ H l = some (.lst xl) ∧ TkAll H xl (b.lights.map PyData.int) ∧ H g = some (.lst xg) ∧ TkAll H xg (b.goods.map goodD) := by
  cases h with
  | tup ht hta =>
  cases hta with
  | cons t1 hta => cases hta with
  | cons t2 hta => cases hta with
  | cons t3 hta =>
  cases hta
  cases t1 with
  | lst h1 h2 =>
  cases t3 with
  | lst h3 h4 =>
  rw [t2.opt] at ht
  exact ⟨_, _, _, _, _, rfl, ht, h1, h2, h3, h4⟩
theorem Tk.good {H : Hp} {x : V} {g : Good} (h : Tk H x (goodD g)) : ∃ t a xs, x = .ref t ∧ H t = some (.tup [.ref a, Bk.optV g.life]) ∧ H a = some (.lst xs) ∧ TkAll H xs (g.days.map dayD) := by
  cases h with
  | tup ht hta =>
  cases hta with
  | cons t1 hta => cases hta with
  | cons t2 hta =>
  cases hta
  cases t1 with
  | lst h1 h2 =>
  rw [t2.opt] at ht
  exact ⟨_, _, _, rfl, ht, h1, h2⟩
/-! ### a comprehension whose items are new things -/
theorem LcR.build {J : It} {n : Nat} {G : Hp → Prop} {Y : Nat → Hp → V → Hp → Prop} (w : Walk J n G Y) {g : TG} {te : TE} {vs : List Nat} {σ : L2.St} {H H1 : Hp} {D : Addr} {Qd : Hp → Prop} (es : List PyData) (hD : H1 D = none) (hn : es.length = n) (hz : n ≤ 100000)
    (hG : ∀ H, Same H1 H → G H) (hY : ∀ i H x H', Y i H x H' → Same H H')
    (hs : ∀ i x e H0 H', i < n → Same H1 H' → (∃ acc, H' D = some (.lst acc)) → Y i H0 x H' → es[i]? = some e → ∀ R : V → Hp → Prop, (∀ v H4, Same H' H4 → Tk (newBut H D D H4) v e → R v H4) → g x (wipe σ vs) H' fun σ2 H2 => wipe σ2 vs = wipe σ vs ∧ te σ2 H2 R)
    (hd : ∀ H' acc, Same H1 H' → H' D = some (.lst acc) → TkAll (newBut H D D H') acc es → Qd H') : LcR J g tYes te vs σ D H1 Qd := by
  refine LcR.by w (fun i H' => Same H1 H' ∧ ∃ acc, H' D = some (.lst acc) ∧ TkAll (newBut H D D H') acc (es.take i)) ⟨same_upd hD, [], upd_same, .nil⟩ (fun i H _ h => hG H h.1) (fun i x H0 H' hi h y => ?_) (fun H' h => ?_)
  · obtain ⟨s0, acc, ea, ta⟩ := h
    have s := hY _ _ _ _ y
    have e : es[i]? = some (es[i]'(by omega)) := List.getElem?_eq_getElem (by omega)
    refine hs i x _ H0 H' hi (s0.trans s) ⟨acc, s _ _ ea⟩ y e _ fun v H4 s4 tv => ?_
    have e4 := s4 _ _ (s _ _ ea)
    refine ⟨_, e4, ?_, same_mut ((s0.trans s).trans s4) hD, _, upd_same, ?_⟩
    · rw [ta.length, List.length_take]
      exact sz100l (by omega)
    · rw [List.take_add_one, e]
      refine (ta.same (newBut_mono fun b o h1 _ q => ?_)).append (.cons (tv.same (newBut_mono fun b o h1 _ q => ?_)) .nil)
      · rw [upd_ne h1]
        exact s4 _ _ (s _ _ q)
      · rw [upd_ne h1]
        exact q
  · obtain ⟨s0, acc, ea, ta⟩ := h
    rw [← hn, List.take_length] at ta
    exact hd H' acc s0 ea ta
/-! ### while, by the number of its turns -/
def WI (n : Nat) (Pv : Nat → L2.St → Hp → Prop) (m : Nat) (σ : L2.St) (H : Hp) : Prop := ∃ i, m = n - i ∧ i ≤ n ∧ Pv i σ H
def WStep (n : Nat) (Pv : Nat → L2.St → Hp → Prop) (i : Nat) (tb : TS) (D : Ends) (σ : L2.St) (H1 : Hp) : Prop := ∃ N : L2.St → Hp → Prop, (∀ σ' H', N σ' H' → ∃ m', m' < n - i ∧ WI n Pv m' σ' H') ∧ tb { D with nx := N, ct := N, bk := D.nx } σ H1
end Bk

namespace Bk
open PySem PySem.Spec PyProof.Rows L2
/-! ### defs that are called where no text of a container is being written: repr may be asked there -/
/-- as a def's promise, but only around calls whose guards are none -/
def RunG (P : Program) (w : World) (K : PySem.W.Frag) (mg : Str → Option Value) (base : Heap) (k : Nat) (f : Addr) (fd : FuncData) (ps : List Str) (sp : Sp) : Prop :=
  (∀ vs H Q E, sp vs H Q E → vs.length = ps.length) ∧
  ∀ (A : Around) (outer : List Env) (s : Shared) (H : Hp) (args : Args) (us : List Value) (vs : List V) (Q : VK) (E : XK), A.guards = some [] → Room k A → Env0 P w K mg base A outer s H → BindsTo s fd args (ps.zip us) → Vals vs us → sp vs H Q E →
    codeAny (model P w) A (.call (.ref f) args) (CR CX0 outer P w H s Q E) s
theorem runG_of {P : Program} {w : World} {K : PySem.W.Frag} {mg : Str → Option Value} {base : Heap} {x qual : Str} {st : Stmt} {f : Addr} {fd : FuncData} {N ps : List Str} {k : Nat} {sp : Sp} (F : Fun K x qual st f fd) (S : FnScope N ps (defScope st))
    (len : ∀ vs H Q E, sp vs H Q E → vs.length = ps.length)
    (body : ∀ (cdv : Value) (A : Around) (outer : List Env) (s : Shared) (H : Hp) (vs : List V) (Q : VK) (E : XK), A.guards = some [] → Room k (A.deeper (envOfC qual (defScope st) s.heap.objs.size f cdv)) → sp vs H Q E →
      ∃ t, PSs (cxOf CX0 P w K mg base N qual (defScope st) f cdv A outer s H E).nox (defBody st) t ∧ t { nx := fun _ H' => Q .non H', rt := Q } (L2.start N vs) H) : RunG P w K mg base (k + 1) f fd ps sp := by
  obtain ⟨oc, od, kV, doc, pm, an, cdv, ct, osl, rfl, lk, hcd⟩ := F.ex
  refine ⟨len, fun A outer s H args us vs Q E hA hr e0 hb r hs => ?_⟩
  have up : ∀ b o, base.get? b = some o → s.heap.get? b = some o := fun b o e => (e0.bs b o e).1
  have kin : K.In s.heap := e0.mod.kin.keeps up
  have places : ∀ y ∈ ps.zip us, (defScope st).names.lookup y.1 = some .local ∨ ((defScope st).names.lookup y.1 = some .cell ∧ ((cellsFrom (s.heap.objs.size + 1) (defScope st).names []).lookup y.1).isSome = true) := by
    rintro ⟨n, v⟩ hy
    exact (S.par n (List.of_mem_zip hy).1).elim .inl fun q => .inr ⟨q, PySem.W.cellsFrom_some _ _ _ (.inl q)⟩
  refine codeAny_call_function hr.depth (kin _ _ lk) rfl S.co S.gen rfl (PySem.W.codeRec_of kin hcd) (hb _ _ _ _ (wpAny_newFunctionEnv_cells S.kind places fun env he s1 z => ?_))
  subst he
  refine ⟨(e0.mod.nolimit.keeps up).keeps z.toInCall.keep, codeAny_func ?_⟩
  obtain ⟨t, ht, ht2⟩ := body cdv A outer s H vs Q E hA (hr.deeper _) hs
  have J := inv_start (CX := CX0) (E := E) S hr.hd e0 (len _ _ _ _ hs) r z
  refine wpAny_mono (ht.nox.run [] s1 _ H _ J ht2) (fun fl s' g => ?_) fun _ _ g => g
  cases fl with
  | next =>
    obtain ⟨_, H', J', q⟩ := g
    exact ⟨.non, H', J'.os, J'.bare, J'.base, J'.hok, rfl, q⟩
  | ret u =>
    obtain ⟨v, _, H', J', rv, q⟩ := g
    exact ⟨v, H', J'.os, J'.bare, J'.base, J'.hok, rv, q⟩
  | brk =>
    obtain ⟨_, _, _, q⟩ := g
    exact q.elim
  | cont =>
    obtain ⟨_, _, _, q⟩ := g
    exact q.elim
/-- the law's own call: nothing but the script is tracked -/
theorem law_runG {P : Program} {w : World} {K : PySem.W.Frag} {mg mb : Str → Option Value} {k : Nat} {fa a : Addr} {fd : FuncData} {x : Str} {sp : Sp} {t : Shared} {us : List Value} {ns : List Int} (kin : K.In t.heap) (glob : t.heap.Ns mainGlobals mg) (blt : t.heap.Ns builtinsNs mb)
    (boot : ∀ y : Str, y ≠ "__name__" → mb y = bootBuiltins y) (lim : t.heap.NoLimit) (none_g : t.gens = #[]) (at_a : t.heap.get? a = some { cls := .type "list", data := .seq us.toArray }) (its0 : IntsAre us ns) (few : ns.length ≤ sizeLine) (room : Room k callerA)
    (F : ∀ base : Heap, K.In base → base.Ns mainGlobals mg → RunG P w K mg base k fa fd [x] sp) (binds : ∀ (s : Shared) (u : Value), BindsTo s fd ⟨[u], []⟩ [(x, u)])
    (law : ∀ H : Hp, SqL K H a (ns.map V.int) → sp [.ref a] H (fun v _ => v = .bl true) fun _ _ _ => False) :
    codeAny (model P w) callerA (.call (.ref fa) ⟨[.ref a], []⟩) (fun r s' => r = .ok (.ret (.bool true)) ∧ OldK t.heap s'.heap ∧ s'.os = t.os ∧ AllBare s'.gens) t := by
  have rel0 := vals_ints its0
  have go : ∀ H : Hp, (∀ b o, H b = some o → b = a ∧ K.lookup a = none ∧ ∃ ob ys, o = .frz ob (.lst ys)) → SqL K H a (ns.map V.int) → HOk P w H t.heap →
      codeAny (model P w) callerA (.call (.ref fa) ⟨[.ref a], []⟩) (fun r s' => r = .ok (.ret (.bool true)) ∧ OldK t.heap s'.heap ∧ s'.os = t.os ∧ AllBare s'.gens) t := by
    intro H only seq hok
    have free : ∀ {b : Addr} {o : Obj} {es : Array DictEntry} {n : Nat}, t.heap.get? b = some o → o.data = .dict es n → H b = none := by
      intro b o es n e d
      cases q : H b with
      | none => rfl
      | some z =>
        obtain ⟨rfl, _⟩ := only b z q
        rw [at_a] at e
        cases e
        cases d
    have names : ∀ {b : Addr} {m : Str → Option Value}, t.heap.Ns b m → (hidT t.heap H).Ns b m := by
      rintro b m ⟨o, es, n, e, d, r⟩
      exact ⟨o, es, n, hidT_get e (free e d), d, r⟩
    have kin2 : K.In (hidT t.heap H) := by
      intro b o e
      refine hidT_get (kin b o e) ?_
      cases q : H b with
      | none => rfl
      | some z =>
        obtain ⟨rfl, n, _⟩ := only b z q
        rw [n] at e
        cases e
    obtain ⟨mc, l1, l2⟩ := lim
    have env : Env0 P w K mg (hidT t.heap H) callerA [] t H := by
      refine ⟨rfl, ⟨kin2, names glob, ⟨mb, names blt, boot⟩, ⟨mc, names l1, l2⟩⟩, fun b o e => of_hidT e, Nat.le_of_eq (hidT_size _ _), trivial, fun b hb => ?_, hok, .of_eq none_g⟩
      cases hb
    refine codeAny_mono ((F _ kin2 (names glob)).2 callerA [] t H ⟨[.ref a], []⟩ [.ref a] [.ref a] _ _ rfl room env (binds t (.ref a)) (.cons rfl .nil) (law H seq)) ?_
    intro r s' h
    match r, h with
    | .ok (.ret u), ⟨v, H', os, bare, un, hok', rl, q⟩ =>
      have q : v = .bl true := q
      subst q
      have rl : u = Value.bool true := rl
      subst rl
      refine ⟨rfl, OldK.of_keep fun b o e => ?_, os, bare⟩
      cases z : H b with
      | none => exact un.keep b o e z (fun m => nomatch m) (fun m => nomatch m)
      | some y =>
        obtain ⟨_, _, ob, ys, rfl⟩ := only b y z
        have k1 := (hok b _ z).1
        have k2 := (hok' b _ (un.frzs b ob _ z)).1
        rw [e] at k1
        cases k1
        exact k2
  cases hk : K.lookup a with
  | none =>
    refine go (fun b => if b = a then some (.frz { cls := .type "list", data := .seq us.toArray } (.lst (ns.map V.int))) else none) (fun b o e => ?_) (.inl (.inr ⟨_, if_pos rfl⟩)) (fun b o e => ?_)
    · try dsimp only at e
      split at e
      · rename_i hb
        exact ⟨hb, hk, _, _, (Option.some.inj e).symm⟩
      · cases e
    · try dsimp only at e
      split at e
      · rename_i hb
        subst hb
        cases e
        exact ⟨at_a, by rw [List.length_map]; exact few, us, _, rel0, at_a⟩
      · cases e
  | some o =>
    have e := kin a o hk
    rw [at_a] at e
    cases e
    refine go (fun _ => none) (fun b o e => by cases e) (.inr ⟨_, us.toArray, _, hk, rfl, rfl, rfl, ?_, by simpa using rel0⟩) (fun b o e => by cases e)
    rw [List.size_toArray, its0.length]
    exact few
theorem walk_G {l : PySem.W.OpenLaw} {n k : Nat} {q : Program} {loose : List Str} {XP : (Str → Option Value) → Heap → Prop} {YP : World → Heap → Prop} {d : DefRec} {K : Params → PySem.W.Frag} {sp : World → Sp} {x : Str}
    (most : l.most = some n) (line : n ≤ sizeLine) (nodef : d.params.defaults = []) (room : Room k callerA) (parts : ∀ (w : World) (h : Heap), YP w h → (K w.params).In h)
    (F : ∀ (w : World) (mg : Str → Option Value) (fa : Addr) (h : Heap), (K w.params).In h → h.Ns mainGlobals mg → mg d.name = some (.ref fa) → ∃ fd : FuncData, (∀ (s : Shared) (u : Value), BindsTo s fd ⟨[u], []⟩ [(x, u)]) ∧
        ∀ base : Heap, (K w.params).In base → base.Ns mainGlobals mg → RunG l.prog w (K w.params) mg base k fa fd [x] (sp w))
    (law : ∀ (w : World) (H : Hp) (a : Addr) (ns : List Int), ns.length ≤ n → SqL (K w.params) H a (ns.map V.int) → sp w [.ref a] H (fun v _ => v = .bl true) fun _ _ _ => False) :
    PySem.W.WalkO q loose XP YP l.row.toRowW d [] (fun f vs => PySem.call f vs) := by
  refine Att.attach_call most nodef fun w s0 s1 mg mb fa o pm cd doc a us ns G Y _ _ _ named obj its0 len gens => ?_
  obtain ⟨fd, hb, hF⟩ := F w mg fa _ (parts w _ Y) G.T.g named
  exact law_runG (parts w _ Y) G.T.g G.T.b G.T.builtins G.T.nolimit gens obj its0 (Nat.le_trans len line) room hF hb fun H => law w H a ns len
/-! ### repr of data without dicts -/
mutual
theorem Th.dp {K : PySem.W.Frag} {H : Hp} : ∀ {v : V} {d : PyData}, Th K H v d → d.hasDict = false → Dp K H v d
  | _, _, .non, _ => .non
  | _, _, .bl b, _ => .bl b
  | _, _, .int i, _ => .int i
  | _, _, .str x, _ => .str x
  | _, _, .lst h t, n => .lst h (ThAll.dp t (by simpa only [PyData.hasDict] using n))
  | _, _, .tup h t, n => .tup h (ThAll.dp t (by simpa only [PyData.hasDict] using n))
  | _, _, .dic _, n => by simp only [PyData.hasDict] at n; cases n
theorem ThAll.dp {K : PySem.W.Frag} {H : Hp} : ∀ {vs : List V} {ds : List PyData}, ThAll K H vs ds → PyData.hasDictAll ds = false → DpAll K H vs ds
  | _, _, .nil, _ => .nil
  | _, _, .cons h t, n => by
    simp only [PyData.hasDictAll, Bool.or_eq_false_iff] at n
    exact .cons (Th.dp h n.1) (ThAll.dp t n.2)
end
/-- what may be shown: ints of few figures, not too deep, not too long -/
structure Shows (d : PyData) : Prop where
  nodict : d.hasDict = false
  able : d.showable = true
  deep : d.depth ≤ 60
  short : d.shown.length ≤ sizeLine
def rRepr (K : PySem.W.Frag) : List V → Hp → VK → Prop := fun xs H Q => ∃ x d, xs = [x] ∧ Th K H x d ∧ Shows d ∧ Q (.str d.shown) H
theorem call_repr {X : Cx} (hg : X.A.guards = some []) (hu : X.A.units + 64 < cLine) : CallR X (.builtin "repr") (rRepr X.K) := by
  intro pins s σ H xs us Q I r h
  obtain ⟨x, d, rfl, hx, hd, q⟩ := h
  cases r with
  | cons rx rr =>
  cases rr
  rename_i u
  obtain ⟨as, rd⟩ := Dp.reads I d x u (hx.dp hd.nodict) rx
  have deep := hd.deep
  cases hx with
  | non =>
    cases (show u = Value.none from rx)
    exact PySem.P.repr_of_none ⟨.str (PyData.shown .none), H, I.tok _, ⟨_, rfl⟩, q⟩
  | bl b =>
    cases (show u = Value.bool b from rx)
    exact PySem.P.repr_of_bool ⟨.str (PyData.shown (.bool b)), H, I.tok _, ⟨_, rfl⟩, q⟩
  | int i =>
    obtain ⟨t, rfl⟩ := (show ∃ t, u = Value.int i t from rx)
    have ha : i.natAbs.log2 < 1920 := by
      have := hd.able
      simpa only [PyData.showable, decide_eq_true_eq] using this
    exact PySem.P.repr_of_int ha ⟨.str (PyData.shown (.int i)), H, I.tok _, ⟨_, rfl⟩, q⟩
  | str y =>
    obtain ⟨t, rfl⟩ := (show ∃ t, u = Value.str y t from rx)
    exact PySem.P.repr_of_str ⟨.str (PyData.shown (.str y)), H, I.tok _, ⟨_, rfl⟩, q⟩ hd.short
  | lst h t =>
    rename_i a xs ds
    cases (show u = Value.ref a from rx)
    refine repr_of_reads' rd hd.able (fun z => ?_) hg (by omega) (fun _ _ e => e) (fun h' u tk hk => ⟨.str (PyData.shown (.list ds)), H, I.kept (h' := h') (t' := tk) hk, ⟨_, rfl⟩, q⟩) hd.short
    rw [hd.nodict] at z
    cases z
  | tup h t =>
    rename_i a xs ds
    cases (show u = Value.ref a from rx)
    refine repr_of_reads' rd hd.able (fun z => ?_) hg (by omega) (fun _ _ e => e) (fun h' u tk hk => ⟨.str (PyData.shown (.tuple ds)), H, I.kept (h' := h') (t' := tk) hk, ⟨_, rfl⟩, q⟩) hd.short
    rw [hd.nodict] at z
    cases z
  | dic h =>
    have z := hd.nodict
    simp only [PyData.hasDict] at z
    cases z
theorem rRepr_r {K : PySem.W.Frag} {x : V} {H : Hp} {Q : VK} : rRepr K [x] H Q = ∃ d, Th K H x d ∧ Shows d ∧ Q (.str d.shown) H := propext ⟨fun ⟨y, d, e, h⟩ => by cases e; exact ⟨d, h⟩, fun ⟨d, h⟩ => ⟨x, d, rfl, h⟩⟩
/-! ### data of small numbers -/
mutual
/-- no dict, no text, ints below 10 ** 12 -/
def smB : PyData → Bool
  | .none | .bool _ => true
  | .int i => decide (i.natAbs < 10 ^ 12)
  | .str _ | .dict _ => false
  | .list xs | .tuple xs => smAll xs
def smAll : List PyData → Bool
  | [] => true
  | x :: xs => smB x && smAll xs
end
theorem log12 {n : Nat} (h : n < 10 ^ 12) : n.log2 < 40 := by
  by_cases h0 : n = 0
  · subst h0
    decide
  · exact (Nat.log2_lt h0).mpr (Nat.lt_of_lt_of_le h (by decide))
mutual
theorem sm_facts : ∀ d : PyData, smB d = true → d.hasDict = false ∧ d.showable = true ∧ d.leavesShort 13 = true
  | .none, _ => by simp only [PyData.hasDict, PyData.showable, PyData.leavesShort, and_self]
  | .bool _, _ => by simp only [PyData.hasDict, PyData.showable, PyData.leavesShort, and_self]
  | .int i, h => by
    have h : i.natAbs < 10 ^ 12 := by simpa only [smB, decide_eq_true_eq] using h
    have h1 := log12 h
    have h2 := PyData.shown_int_le h
    simp only [PyData.hasDict, PyData.showable, PyData.leavesShort, decide_eq_true_eq, true_and]
    exact ⟨by omega, h2⟩
  | .str _, h => by simp only [smB] at h; cases h
  | .dict _, h => by simp only [smB] at h; cases h
  | .list xs, h => by
    have h1 := smAll_facts xs (by simpa only [smB] using h)
    simpa only [PyData.hasDict, PyData.showable, PyData.leavesShort] using h1
  | .tuple xs, h => by
    have h1 := smAll_facts xs (by simpa only [smB] using h)
    simpa only [PyData.hasDict, PyData.showable, PyData.leavesShort] using h1
theorem smAll_facts : ∀ ds : List PyData, smAll ds = true → PyData.hasDictAll ds = false ∧ PyData.showableAll ds = true ∧ PyData.leavesShortAll 13 ds = true
  | [], _ => by simp only [PyData.hasDictAll, PyData.showableAll, PyData.leavesShortAll, and_self]
  | x :: xs, h => by
    have h : smB x = true ∧ smAll xs = true := by simpa only [smAll, Bool.and_eq_true] using h
    obtain ⟨a1, a2, a3⟩ := sm_facts x h.1
    obtain ⟨b1, b2, b3⟩ := smAll_facts xs h.2
    simp only [PyData.hasDictAll, PyData.showableAll, PyData.leavesShortAll, a1, a2, a3, b1, b2, b3, Bool.or_self, Bool.and_self, and_self]
end
theorem depthAll_le {c : Nat} {ds : List PyData} (h : ∀ d ∈ ds, d.depth ≤ c) : PyData.depthAll ds ≤ c := by
  induction ds with
  | nil => simp only [PyData.depthAll, Nat.zero_le]
  | cons x r ih =>
    have h1 := h x List.mem_cons_self
    have h2 := ih fun d hd => h d (List.mem_cons_of_mem _ hd)
    simp only [PyData.depthAll]
    omega
theorem numD_sm {i : Int} (h : numD (.int i) = true) : i.natAbs < 10 ^ 12 := by
  simp only [numD, Bool.and_eq_true, decide_eq_true_eq] at h
  have : i.natAbs ≤ 1000000000 := by omega
  exact Nat.lt_of_le_of_lt this (by decide)
theorem bak_parts {b : Bak} (h : bakB (bakD b) = true) : (1 ≤ b.lights.length ∧ b.lights.length ≤ 40) ∧ (∀ z ∈ b.lights, numD (.int z) = true) ∧ boundB (optD b.bound) = true ∧ (1 ≤ b.goods.length ∧ b.goods.length ≤ 2) ∧
    ∀ g ∈ b.goods, g.days.length = b.lights.length ∧ lifeB (optD g.life) = true ∧ ∀ d ∈ g.days, dayB (dayD d) = true := by
  obtain ⟨ls, bo, gs, e, h1, h2, h3, h4⟩ := bakB_inv h
  unfold bakD at e
  injection e with e
  injection e with e1 e
  injection e with e2 e
  injection e with e3 e
  injection e1 with e1
  injection e3 with e3
  subst e1 e2 e3
  have l1 := Bool.and_eq_true_iff.mp h1
  have l2 := Bool.and_eq_true_iff.mp l1.1
  have l3 := Bool.and_eq_true_iff.mp h3
  have a1 := of_decide_eq_true l2.1
  have a2 := of_decide_eq_true l2.2
  have a3 := of_decide_eq_true l3.1
  have a4 := of_decide_eq_true l3.2
  rw [List.length_map] at a1 a2 a3 a4
  refine ⟨⟨a1, a2⟩, fun z hz => List.all_eq_true.mp l1.2 _ (List.mem_map.mpr ⟨z, hz, rfl⟩), h2, ⟨a3, a4⟩, fun g hg => ?_⟩
  have h5 := List.all_eq_true.mp h4 (goodD g) (List.mem_map.mpr ⟨g, hg, rfl⟩)
  obtain ⟨ds, l, e4, e5, e6, e7⟩ := goodB_inv h5
  unfold goodD at e4
  injection e4 with e4
  injection e4 with e4 e8
  injection e8 with e8 _
  injection e4 with e4
  subst e4 e8
  rw [List.length_map, List.length_map] at e5
  exact ⟨e5, e6, fun d hd => List.all_eq_true.mp e7 _ (List.mem_map.mpr ⟨d, hd, rfl⟩)⟩
end Bk

namespace Bk
open PySem PySem.Spec PyProof.Rows L2
/-! ### prices of loaves that cross -/
theorem sumO_append : ∀ {l m : List (Option Int)} {z : Int}, sumO (l ++ m) = some z → ∃ x y, sumO l = some x ∧ sumO m = some y ∧ x + y = z
  | [], m, z, h => ⟨0, z, rfl, h, Int.zero_add z⟩
  | none :: l, m, z, h => by cases h
  | some a :: l, m, z, h => by
    have h : (sumO (l ++ m)).map (a + ·) = some z := h
    cases e : sumO (l ++ m) with
    | none => rw [e] at h; cases h
    | some b =>
      rw [e] at h
      have h : a + b = z := Option.some.inj h
      obtain ⟨x, y, h1, h2, h3⟩ := sumO_append e
      refine ⟨a + x, y, ?_, h2, by omega⟩
      show (sumO l).map (a + ·) = some (a + x)
      rw [h1]
      rfl
theorem sumO_nonneg : ∀ {l : List (Option Int)} {z : Int}, (∀ o ∈ l, ∀ i, o = some i → 0 ≤ i) → sumO l = some z → 0 ≤ z
  | [], z, _, h => by
    have h : (0 : Int) = z := Option.some.inj h
    omega
  | none :: l, z, _, h => by cases h
  | some a :: l, z, hn, h => by
    have h : (sumO l).map (a + ·) = some z := h
    cases e : sumO l with
    | none => rw [e] at h; cases h
    | some b =>
      rw [e] at h
      have h : a + b = z := Option.some.inj h
      have h1 := sumO_nonneg (fun o ho => hn o (List.mem_cons_of_mem _ ho)) e
      have h2 := hn _ List.mem_cons_self a rfl
      omega
theorem seg_split {α : Type} (l : List α) {i j k : Nat} (h1 : i ≤ j) (h2 : j ≤ k) : (l.drop i).take (k - i) = (l.drop i).take (j - i) ++ (l.drop j).take (k - j) := by
  have e : k - i = (j - i) + (k - j) := by omega
  rw [e, List.take_add, List.drop_drop]
  congr 3
  omega
theorem sum_nonneg' : ∀ {l : List Int}, (∀ x ∈ l, 0 ≤ x) → 0 ≤ l.sum
  | [], _ => by decide
  | a :: r, h => by
    rw [List.sum_cons]
    have h1 := h a List.mem_cons_self
    have h2 := sum_nonneg' fun x hx => h x (List.mem_cons_of_mem _ hx)
    omega
theorem sum_append' : ∀ (l m : List Int), (l ++ m).sum = l.sum + m.sum
  | [], m => by rw [List.nil_append, List.sum_nil]; omega
  | a :: r, m => by rw [List.cons_append, List.sum_cons, List.sum_cons, sum_append' r m]; omega
theorem keepsL_split (ds : List Day) {i j k : Nat} (h1 : i ≤ j) (h2 : j ≤ k) : keepsL ds i k = keepsL ds i j + keepsL ds j k := by
  unfold keepsL
  rw [seg_split ds h1 h2, List.map_append, sum_append']
theorem finesL_split {ds : List Day} {i j k : Nat} {z : Int} (h1 : i ≤ j) (h2 : j ≤ k) (h : finesL ds i k = some z) : ∃ x y, finesL ds i j = some x ∧ finesL ds j k = some y ∧ x + y = z := by
  unfold finesL at h
  rw [seg_split ds h1 h2, List.map_append] at h
  exact sumO_append h
/-- keeps and fines are no less than 0 -/
structure NonNeg (ds : List Day) : Prop where
  keep : ∀ d ∈ ds, 0 ≤ d.keep
  fine : ∀ d ∈ ds, ∀ i, d.fine = some i → 0 ≤ i
theorem seg_mem {α : Type} {l : List α} {i n : Nat} {x : α} (h : x ∈ (l.drop i).take n) : x ∈ l := List.mem_of_mem_drop (List.mem_of_mem_take h)
theorem keepsL_nonneg {ds : List Day} (N : NonNeg ds) (i j : Nat) : 0 ≤ keepsL ds i j := sum_nonneg' fun x hx => by
  obtain ⟨d, hd, rfl⟩ := List.mem_map.mp hx
  exact N.keep d (seg_mem hd)
theorem finesL_nonneg {ds : List Day} (N : NonNeg ds) {i j : Nat} {z : Int} (h : finesL ds i j = some z) : 0 ≤ z := sumO_nonneg (fun o ho i e => by
  obtain ⟨d, hd, rfl⟩ := List.mem_map.mp ho
  exact N.fine d (seg_mem hd) i e) h
/-- what comes to the loaf price -/
def extP (g : Good) (j k : Nat) : Option Int := if k < j then finesL g.days k j else match g.life with
  | none => some (keepsL g.days j k)
  | some l => if l < (k : Int) - (j : Int) then none else some (keepsL g.days j k)
theorem loafP_ext {g : Good} {j k : Nat} {d : Day} (hd : g.days[j]? = some d) : loafP g j k = (extP g j k).map (d.loaf + ·) := by
  unfold loafP extP
  rw [hd]
  dsimp only
  by_cases h : k < j
  · rw [if_pos h, if_pos h]
  · rw [if_neg h, if_neg h]
    cases g.life with
    | none => rfl
    | some l =>
      dsimp only
      by_cases h2 : l < (k : Int) - (j : Int)
      · rw [if_pos h2, if_pos h2]
        rfl
      · rw [if_neg h2, if_neg h2]
        rfl
theorem ext_keep {g : Good} {j k : Nat} (h : j ≤ k) {z : Int} : extP g j k = some z ↔ (∀ l, g.life = some l → (k : Int) - (j : Int) ≤ l) ∧ keepsL g.days j k = z := by
  unfold extP
  rw [if_neg (by omega)]
  cases hl : g.life with
  | none => exact ⟨fun e => ⟨fun l h => (by cases h), Option.some.inj e⟩, fun e => by rw [e.2]⟩
  | some l =>
    dsimp only
    by_cases h2 : l < (k : Int) - (j : Int)
    · rw [if_pos h2]
      exact ⟨fun e => (by cases e), fun e => by have := e.1 l rfl; omega⟩
    · rw [if_neg h2]
      exact ⟨fun e => ⟨fun l' h' => (by cases h'; omega), Option.some.inj e⟩, fun e => by rw [e.2]⟩
theorem ext_fine {g : Good} {j k : Nat} (h : k < j) {z : Int} : extP g j k = some z ↔ finesL g.days k j = some z := by
  unfold extP
  rw [if_pos h]
theorem ext_cross {g : Good} (N : NonNeg g.days) {a c e l : Nat} (hac : a < c) (hel : e < l) {x y : Int} (h1 : extP g a l = some x) (h2 : extP g c e = some y) : ∃ z t, extP g a e = some z ∧ extP g c l = some t ∧ z + t ≤ x + y := by
  by_cases hal : a ≤ l
  · obtain ⟨hlf, hk1⟩ := (ext_keep hal).mp h1
    by_cases hce : c ≤ e
    · -- all ahead
      obtain ⟨_, hk2⟩ := (ext_keep hce).mp h2
      refine ⟨_, _, (ext_keep (by omega)).mpr ⟨fun m hm => by have := hlf m hm; omega, rfl⟩, (ext_keep (by omega)).mpr ⟨fun m hm => by have := hlf m hm; omega, rfl⟩, ?_⟩
      have e1 := keepsL_split g.days (show a ≤ c by omega) hce
      have e2 := keepsL_split g.days (show a ≤ c by omega) (show c ≤ l by omega)
      omega
    · have hf := (ext_fine (show e < c by omega)).mp h2
      by_cases hae : a ≤ e
      · by_cases hcl : c ≤ l
        · refine ⟨_, _, (ext_keep hae).mpr ⟨fun m hm => by have := hlf m hm; omega, rfl⟩, (ext_keep hcl).mpr ⟨fun m hm => by have := hlf m hm; omega, rfl⟩, ?_⟩
          have e1 := keepsL_split g.days hae (show e ≤ l by omega)
          have e2 := keepsL_split g.days (show e ≤ c by omega) hcl
          have n1 := keepsL_nonneg N e c
          have n2 := finesL_nonneg N hf
          omega
        · obtain ⟨u, v, f1, f2, f3⟩ := finesL_split (show e ≤ l by omega) (show l ≤ c by omega) hf
          refine ⟨_, _, (ext_keep hae).mpr ⟨fun m hm => by have := hlf m hm; omega, rfl⟩, (ext_fine (by omega)).mpr f2, ?_⟩
          have e1 := keepsL_split g.days hae (show e ≤ l by omega)
          have n1 := keepsL_nonneg N e l
          have n2 := finesL_nonneg N f1
          omega
      · obtain ⟨u, v, f1, f2, f3⟩ := finesL_split (show e ≤ a by omega) (show a ≤ c by omega) hf
        by_cases hcl : c ≤ l
        · refine ⟨_, _, (ext_fine (by omega)).mpr f1, (ext_keep hcl).mpr ⟨fun m hm => by have := hlf m hm; omega, rfl⟩, ?_⟩
          have e1 := keepsL_split g.days (show a ≤ c by omega) hcl
          have n1 := keepsL_nonneg N a c
          have n2 := finesL_nonneg N f2
          omega
        · obtain ⟨u2, v2, k1, k2, k3⟩ := finesL_split (show e ≤ l by omega) (show l ≤ c by omega) hf
          obtain ⟨u3, v3, m1, m2, m3⟩ := finesL_split (show e ≤ a by omega) hal k1
          have e3 : u = u3 := Option.some.inj (f1.symm.trans m1)
          refine ⟨_, _, (ext_fine (by omega)).mpr f1, (ext_fine (by omega)).mpr k2, ?_⟩
          have n1 := keepsL_nonneg N a l
          have n2 := finesL_nonneg N m2
          omega
  · have hf1 := (ext_fine (show l < a by omega)).mp h1
    have hf2 := (ext_fine (show e < c by omega)).mp h2
    obtain ⟨u, v, f1, f2, f3⟩ := finesL_split (show e ≤ a by omega) (show a ≤ c by omega) hf2
    obtain ⟨u2, v2, k1, k2, k3⟩ := finesL_split (show e ≤ l by omega) (show l ≤ c by omega) hf2
    obtain ⟨u3, v3, m1, m2, m3⟩ := finesL_split (show e ≤ l by omega) (show l ≤ a by omega) f1
    refine ⟨_, _, (ext_fine (by omega)).mpr f1, (ext_fine (by omega)).mpr k2, ?_⟩
    have e1 : u2 = u3 := Option.some.inj (k1.symm.trans m1)
    have e2 : v3 = x := Option.some.inj (m2.symm.trans hf1)
    omega
theorem loaf_cross {g : Good} (N : NonNeg g.days) {a c e l : Nat} (hac : a < c) (hel : e < l) (hc : c < g.days.length) {x y : Int} (h1 : loafP g a l = some x) (h2 : loafP g c e = some y) : ∃ z t, loafP g a e = some z ∧ loafP g c l = some t ∧ z + t ≤ x + y := by
  have da : g.days[a]? = some (g.days[a]'(by omega)) := List.getElem?_eq_getElem (by omega)
  have dc : g.days[c]? = some g.days[c] := List.getElem?_eq_getElem hc
  rw [loafP_ext da] at h1
  rw [loafP_ext dc] at h2
  cases e1 : extP g a l with
  | none => rw [e1] at h1; cases h1
  | some x' =>
    cases e2 : extP g c e with
    | none => rw [e2] at h2; cases h2
    | some y' =>
      rw [e1] at h1
      rw [e2] at h2
      have h1 := Option.some.inj h1
      have h2 := Option.some.inj h2
      obtain ⟨z, t, q1, q2, q3⟩ := ext_cross N hac hel e1 e2
      refine ⟨_, _, by rw [loafP_ext da, q1]; rfl, by rw [loafP_ext dc, q2]; rfl, ?_⟩
      dsimp only at h1 h2 ⊢
      omega
theorem rNin_r {K : PySem.W.Frag} {x : V} {p : Addr} {H : Hp} {Q : VK} : rIn K true x (.ref p) H Q = ∃ xs, (SqL K H p xs ∨ SqT K H p xs) ∧ flatV x = true ∧ xs.all flatV = true ∧ Q (.bl (!inV x xs)) H :=
  propext ⟨fun ⟨_, xs, e, h⟩ => by cases e; exact ⟨xs, h⟩, fun ⟨xs, h⟩ => ⟨p, xs, rfl, h⟩⟩
end Bk

namespace Bk
open PySem PySem.Spec PyProof.Rows L2
/-! ### ranges as values -/
def rRg1 : List V → Hp → VK → Prop := fun vs H Q => ∃ j, vs = [V.int j] ∧ ∀ p, H p = none → Q (.ref p) (upd H p (.rng 0 j))
def rRg2 : List V → Hp → VK → Prop := fun vs H Q => ∃ i j, vs = [V.int i, V.int j] ∧ ∀ p, H p = none → Q (.ref p) (upd H p (.rng i j))
theorem rRg1_i {j : Int} {H : Hp} {Q : VK} : rRg1 [.int j] H Q = ∀ p, H p = none → Q (.ref p) (upd H p (.rng 0 j)) := propext ⟨fun ⟨_, e, h⟩ => by cases e; exact h, fun h => ⟨j, rfl, h⟩⟩
theorem rRg2_i {i j : Int} {H : Hp} {Q : VK} : rRg2 [.int i, .int j] H Q = ∀ p, H p = none → Q (.ref p) (upd H p (.rng i j)) := propext ⟨fun ⟨_, _, e, h⟩ => by cases e; exact h, fun h => ⟨i, j, rfl, h⟩⟩
def rInr : R2 := fun x y H Q => ∃ i a lo hi, x = V.int i ∧ y = V.ref a ∧ H a = some (.rng lo hi) ∧ Q (.bl (decide (lo ≤ i ∧ i < hi))) H
theorem rInr_r {i : Int} {a : Addr} {H : Hp} {Q : VK} : rInr (.int i) (.ref a) H Q = ∃ lo hi, H a = some (.rng lo hi) ∧ Q (.bl (decide (lo ≤ i ∧ i < hi))) H := propext ⟨fun ⟨_, _, lo, hi, e1, e2, h⟩ => by cases e1; cases e2; exact ⟨lo, hi, h⟩, fun ⟨lo, hi, h⟩ => ⟨i, a, lo, hi, rfl, rfl, h⟩⟩
theorem ipI_ii {f : Int → Int → Int} {i j : Int} {H : Hp} {Q : VK} : ipI f (.int i) (.int j) H Q = Q (.int (f i j)) H := propext ⟨fun ⟨_, _, e1, e2, h⟩ => by cases e1; cases e2; exact h, fun h => ⟨i, j, rfl, rfl, h⟩⟩
/-! ### prices of stretches, and reaches -/
def wantP (g : Good) (j k : Nat) : Option Int := match g.days[k]? with
  | none => none
  | some d => if d.want = 0 then some 0 else (loafP g j k).map (d.want * ·)
def stretchP (g : Good) (j f n : Nat) : Option Int := sumO ((List.range n).map fun i => wantP g j (f + i))
theorem sumO_snoc (l : List (Option Int)) (o : Option Int) : sumO (l ++ [o]) = match sumO l, o with
    | some x, some y => some (x + y)
    | _, _ => none := by
  induction l with
  | nil =>
    cases o with
    | none => rfl
    | some y =>
      show some (y + 0) = some (0 + y)
      rw [Int.add_zero, Int.zero_add]
  | cons a r ih =>
    cases a with
    | none => rfl
    | some a =>
      show (sumO (r ++ [o])).map (a + ·) = _
      rw [ih]
      show _ = match (sumO r).map (a + ·), o with
        | some x, some y => some (x + y)
        | _, _ => none
      cases sumO r with
      | none => rfl
      | some x =>
        cases o with
        | none => rfl
        | some y =>
          show some (a + (x + y)) = some (a + x + y)
          rw [Int.add_assoc]
def reachF (g : Good) (k : Nat) : Int := match g.life with
  | none => 0
  | some l => if (k : Int) - l > 0 then (k : Int) - l else 0
/-- last is the last day of the reach -/
structure ReachL (g : Good) (k last : Nat) : Prop where
  le : k ≤ last
  lt : last < g.days.length
  fine : ∃ z, finesL g.days k last = some z
  stop : last + 1 < g.days.length → ∃ d, g.days[last]? = some d ∧ d.fine = none
theorem sumO_join' : ∀ {l m : List (Option Int)} {x y : Int}, sumO l = some x → sumO m = some y → sumO (l ++ m) = some (x + y)
  | [], m, x, y, h1, h2 => by
    have h1 : (0 : Int) = x := Option.some.inj h1
    rw [← h1, Int.zero_add]
    exact h2
  | none :: l, m, x, y, h1, h2 => by cases h1
  | some a :: l, m, x, y, h1, h2 => by
    have h1 : (sumO l).map (a + ·) = some x := h1
    cases e : sumO l with
    | none => rw [e] at h1; cases h1
    | some b =>
      rw [e] at h1
      have h1 : a + b = x := Option.some.inj h1
      show (sumO (l ++ m)).map (a + ·) = some (x + y)
      rw [sumO_join' e h2]
      show some (a + (b + y)) = some (x + y)
      rw [← h1, Int.add_assoc]
end Bk

namespace Bk
open PySem PySem.Spec PyProof.Rows L2
/-! ### the row of least costs: what it is -/
/-- from the m first days' end back: the least of row f + cost + the prices from f to m -/
def lbo (row : Nat → Int) (w : Nat → Option Int) : Nat → Int → Option Int → Option Int
  | 0, _, least => least
  | m + 1, cost, least => match w m with
    | none => least
    | some p => lbo row w m (cost + p) (some (match least with
      | none => row m + (cost + p)
      | some l => if row m + (cost + p) < l then row m + (cost + p) else l))
def segP (w : Nat → Option Int) (f n : Nat) : Option Int := sumO ((List.range n).map fun i => w (f + i))
theorem segP_zero (w : Nat → Option Int) (f : Nat) : segP w f 0 = some 0 := rfl
theorem segP_succ {w : Nat → Option Int} {f n : Nat} {s : Int} (h : segP w f (n + 1) = some s) : ∃ x y, segP w f n = some x ∧ w (f + n) = some y ∧ s = x + y := by
  unfold segP at h
  rw [List.range_succ, List.map_append] at h
  have h := (sumO_snoc _ _).symm.trans h
  cases e1 : sumO ((List.range n).map fun i => w (f + i)) with
  | none =>
    rw [e1] at h
    cases h
  | some x =>
    rw [e1] at h
    have h : (match some x, w (f + n) with
      | some x, some y => some (x + y)
      | _, _ => none) = some s := h
    cases e2 : w (f + n) with
    | none =>
      rw [e2] at h
      cases h
    | some y =>
      rw [e2] at h
      exact ⟨x, y, e1, rfl, (Option.some.inj h).symm⟩
theorem segP_add {w : Nat → Option Int} {f n : Nat} {x y : Int} (h1 : segP w f n = some x) (h2 : w (f + n) = some y) : segP w f (n + 1) = some (x + y) := by
  unfold segP at h1 ⊢
  rw [List.range_succ, List.map_append]
  refine (sumO_snoc _ _).trans ?_
  rw [h1]
  show (match some x, w (f + n) with
      | some x, some y => some (x + y)
      | _, _ => none) = _
  rw [h2]
theorem lbo_from {row : Nat → Int} {w : Nat → Option Int} : ∀ (m : Nat) (cost : Int) (least : Option Int) (v : Int), lbo row w m cost least = some v → least = some v ∨ ∃ f s, f < m ∧ segP w f (m - f) = some s ∧ v = row f + cost + s
  | 0, cost, least, v, h => .inl h
  | m + 1, cost, least, v, h => by
    unfold lbo at h
    cases hw : w m with
    | none =>
      rw [hw] at h
      exact .inl h
    | some p =>
      rw [hw] at h
      have base : segP w m (m + 1 - m) = some p := by
        rw [show m + 1 - m = 0 + 1 by omega]
        have := segP_add (segP_zero w m) (show w (m + 0) = some p from hw)
        rw [this, Int.zero_add]
      rcases lbo_from m (cost + p) _ v h with e | ⟨f, s, hf, hs, e⟩
      · have e := Option.some.inj e
        cases least with
        | none => exact .inr ⟨m, p, by omega, base, by dsimp only at e; omega⟩
        | some l =>
          dsimp only at e
          split at e
          · exact .inr ⟨m, p, by omega, base, by omega⟩
          · exact .inl (congrArg some e)
      · refine .inr ⟨f, s + p, by omega, ?_, by omega⟩
        rw [show m + 1 - f = (m - f) + 1 by omega]
        exact segP_add hs (by rw [show f + (m - f) = m by omega]; exact hw)
theorem lbo_keep {row : Nat → Int} {w : Nat → Option Int} : ∀ (m : Nat) (cost : Int) (l : Int), ∃ v, lbo row w m cost (some l) = some v ∧ v ≤ l
  | 0, cost, l => ⟨l, rfl, Int.le_refl _⟩
  | m + 1, cost, l => by
    unfold lbo
    cases hw : w m with
    | none => exact ⟨l, rfl, Int.le_refl _⟩
    | some p =>
      obtain ⟨v, h1, h2⟩ := lbo_keep (row := row) (w := w) m (cost + p) (if row m + (cost + p) < l then row m + (cost + p) else l)
      refine ⟨v, h1, ?_⟩
      split at h2 <;> omega
theorem lbo_least {row : Nat → Int} {w : Nat → Option Int} : ∀ (m : Nat) (cost : Int) (least : Option Int) (f : Nat) (s : Int), f < m → segP w f (m - f) = some s → ∃ v, lbo row w m cost least = some v ∧ v ≤ row f + cost + s
  | 0, _, _, f, _, hf, _ => by omega
  | m + 1, cost, least, f, s, hf, hs => by
    rw [show m + 1 - f = (m - f) + 1 by omega] at hs
    obtain ⟨x, y, h1, h2, h3⟩ := segP_succ hs
    rw [show f + (m - f) = m by omega] at h2
    unfold lbo
    rw [h2]
    dsimp only
    by_cases hfm : f < m
    · obtain ⟨v, e1, e2⟩ := lbo_least m (cost + y) (some (match least with
        | none => row m + (cost + y)
        | some l => if row m + (cost + y) < l then row m + (cost + y) else l)) f x hfm h1
      exact ⟨v, e1, by omega⟩
    · have hfm : f = m := by omega
      subst hfm
      rw [Nat.sub_self] at h1
      have h1 : (0 : Int) = x := Option.some.inj h1
      obtain ⟨v, e1, e2⟩ := lbo_keep (row := row) (w := w) f (cost + y) (match least with
        | none => row f + (cost + y)
        | some l => if row f + (cost + y) < l then row f + (cost + y) else l)
      refine ⟨v, e1, ?_⟩
      cases least with
      | none =>
        dsimp only at e2
        omega
      | some l =>
        dsimp only at e2
        split at e2 <;> omega
/-- v is the cost of a choice for the m + 1 first days: a stretch from f on, baked on b, behind the f first days; or nothing wanted on day m -/
def Choice (g : Good) (lights row : Nat → Int) (m : Nat) (v : Int) : Prop := (∃ b f s, b ≤ m ∧ f ≤ m ∧ segP (wantP g b) f (m + 1 - f) = some s ∧ v = row f + lights b + s) ∨ ((∃ d, g.days[m]? = some d ∧ d.want = 0) ∧ v = row m)
structure IsRow (g : Good) (lights row : Nat → Int) (n : Nat) : Prop where
  zero : row 0 = 0
  some : ∀ m, m < n → Choice g lights row m (row (m + 1))
  least : ∀ m, m < n → ∀ v, Choice g lights row m v → row (m + 1) ≤ v
theorem IsRow.ext {g : Good} {lights row row' : Nat → Int} {n : Nat} (h : IsRow g lights row n) (h' : IsRow g lights row' n) : ∀ m, m ≤ n → row m = row' m := by
  intro m
  induction m using Nat.strongRecOn with
  | ind m ih =>
    intro hm
    cases m with
    | zero => rw [h.zero, h'.zero]
    | succ m =>
      have tr : ∀ v, Choice g lights row m v ↔ Choice g lights row' m v := by
        intro v
        have e : ∀ f, f ≤ m → row f = row' f := fun f hf => ih f (by omega) (by omega)
        constructor
        · rintro (⟨b, f, s, h1, h2, h3, h4⟩ | ⟨h1, h2⟩)
          · exact .inl ⟨b, f, s, h1, h2, h3, by rw [← e f h2]; exact h4⟩
          · exact .inr ⟨h1, by rw [← e m (by omega)]; exact h2⟩
        · rintro (⟨b, f, s, h1, h2, h3, h4⟩ | ⟨h1, h2⟩)
          · exact .inl ⟨b, f, s, h1, h2, h3, by rw [e f h2]; exact h4⟩
          · exact .inr ⟨h1, by rw [e m (by omega)]; exact h2⟩
      have a := h.least m (by omega) _ ((tr _).mpr (h'.some m (by omega)))
      have b := h'.least m (by omega) _ ((tr _).mp (h.some m (by omega)))
      omega
/-! ### days added -/
theorem seg_take {α : Type} (l : List α) {i k j : Nat} (h : k ≤ j) : ((l.take j).drop i).take (k - i) = (l.drop i).take (k - i) := by
  rw [List.drop_take, List.take_take]
  congr 1
  omega
theorem loafP_take {g : Good} {j b k : Nat} (hb : b < j) (hk : k < j) : loafP ⟨g.days.take j, g.life⟩ b k = loafP g b k := by
  unfold loafP
  rw [List.getElem?_take_of_lt hb]
  cases g.days[b]? with
  | none => rfl
  | some d =>
    dsimp only
    have e1 : finesL (g.days.take j) k b = finesL g.days k b := by
      unfold finesL
      rw [seg_take g.days (show b ≤ j by omega)]
    have e2 : keepsL (g.days.take j) b k = keepsL g.days b k := by
      unfold keepsL
      rw [seg_take g.days (show k ≤ j by omega)]
    rw [e1, e2]
theorem wantP_take {g : Good} {j b k : Nat} (hb : b < j) (hk : k < j) : wantP ⟨g.days.take j, g.life⟩ b k = wantP g b k := by
  unfold wantP
  rw [loafP_take hb hk]
  dsimp only
  rw [List.getElem?_take_of_lt hk]
theorem segP_take {g : Good} {j b f n : Nat} (hb : b < j) (hn : f + n ≤ j) : segP (wantP ⟨g.days.take j, g.life⟩ b) f n = segP (wantP g b) f n := by
  unfold segP
  congr 1
  apply List.map_congr_left
  intro i hi
  have := List.mem_range.mp hi
  exact wantP_take hb (by omega)
theorem Choice.take {g : Good} {lights row : Nat → Int} {j m : Nat} (hm : m < j) {v : Int} : Choice ⟨g.days.take j, g.life⟩ lights row m v ↔ Choice g lights row m v := by
  have e : ∀ b f, b ≤ m → f ≤ m → segP (wantP ⟨g.days.take j, g.life⟩ b) f (m + 1 - f) = segP (wantP g b) f (m + 1 - f) := fun b f h1 h2 => segP_take (by omega) (by omega)
  have ed : (g.days.take j)[m]? = g.days[m]? := List.getElem?_take_of_lt hm
  constructor
  · rintro (⟨b, f, s, h1, h2, h3, h4⟩ | ⟨⟨d, h1, h1'⟩, h2⟩)
    · exact .inl ⟨b, f, s, h1, h2, by rw [← e b f h1 h2]; exact h3, h4⟩
    · exact .inr ⟨⟨d, by rw [← ed]; exact h1, h1'⟩, h2⟩
  · rintro (⟨b, f, s, h1, h2, h3, h4⟩ | ⟨⟨d, h1, h1'⟩, h2⟩)
    · exact .inl ⟨b, f, s, h1, h2, by rw [e b f h1 h2]; exact h3, h4⟩
    · exact .inr ⟨⟨d, by show (g.days.take j)[m]? = _; rw [ed]; exact h1, h1'⟩, h2⟩
theorem IsRow.take {g : Good} {lights row : Nat → Int} {n j : Nat} (h : IsRow g lights row n) (hj : j ≤ n) : IsRow ⟨g.days.take j, g.life⟩ lights row j :=
  ⟨h.zero, fun m hm => (Choice.take hm).mpr (h.some m (by omega)), fun m hm v hv => h.least m (by omega) v ((Choice.take hm).mp hv)⟩
theorem wantP_own {g : Good} {m : Nat} {d : Day} (hd : g.days[m]? = some d) (hl : ∀ l, g.life = some l → 0 ≤ l) : wantP g m m = some (d.want * d.loaf) := by
  unfold wantP
  rw [hd]
  dsimp only
  by_cases hw : d.want = 0
  · rw [if_pos hw, hw, Int.zero_mul]
  · rw [if_neg hw, loafP_ext hd, (ext_keep (Nat.le_refl m)).mpr ⟨fun l e => by have := hl l e; omega, rfl⟩]
    show some (d.want * (d.loaf + keepsL g.days m m)) = _
    have e : keepsL g.days m m = 0 := by unfold keepsL; rw [Nat.sub_self]; rfl
    rw [e, Int.add_zero]
theorem own_choice {g : Good} {lights row : Nat → Int} {m : Nat} {d : Day} (hd : g.days[m]? = some d) (hl : ∀ l, g.life = some l → 0 ≤ l) : Choice g lights row m (row m + lights m + d.want * d.loaf) := by
  refine .inl ⟨m, m, _, Nat.le_refl _, Nat.le_refl _, ?_, rfl⟩
  rw [show m + 1 - m = 0 + 1 by omega]
  have := segP_add (segP_zero (wantP g m) m) (show wantP g m (m + 0) = some (d.want * d.loaf) from wantP_own hd hl)
  rw [this, Int.zero_add]
theorem Choice.congr {g : Good} {lights row row' : Nat → Int} {m : Nat} {v : Int} (e : ∀ f, f ≤ m → row f = row' f) (h : Choice g lights row m v) : Choice g lights row' m v := by
  rcases h with ⟨b, f, s, h1, h2, h3, h4⟩ | ⟨h1, h2⟩
  · exact .inl ⟨b, f, s, h1, h2, h3, by rw [← e f h2]; exact h4⟩
  · exact .inr ⟨h1, by rw [← e m (Nat.le_refl m)]; exact h2⟩
def rowF (rs : List Int) (i : Nat) : Int := rs.getD i 0
theorem rowF_snoc {rs : List Int} {v : Int} {f : Nat} (h : f < rs.length) : rowF (rs ++ [v]) f = rowF rs f := by
  unfold rowF
  rw [List.getD_eq_getElem?_getD, List.getD_eq_getElem?_getD, List.getElem?_append_left h]
theorem rowF_last {rs : List Int} {v : Int} {n : Nat} (h : rs.length = n) : rowF (rs ++ [v]) n = v := by
  unfold rowF
  rw [List.getD_eq_getElem?_getD, List.getElem?_append_right (by omega), h, Nat.sub_self]
  rfl
theorem rowF_get {rs : List Int} {f : Nat} (h : f < rs.length) : (rs.map V.int)[f]? = some (.int (rowF rs f)) := by
  unfold rowF
  rw [List.getElem?_map, List.getD_eq_getElem?_getD, List.getElem?_eq_getElem h]
  rfl
theorem IsRow.snoc {g : Good} {lights : Nat → Int} {rs : List Int} {n : Nat} {v : Int} (h : IsRow g lights (rowF rs) n) (hl : rs.length = n + 1) (hc : Choice g lights (rowF rs) n v) (hm : ∀ u, Choice g lights (rowF rs) n u → v ≤ u) : IsRow g lights (rowF (rs ++ [v])) (n + 1) := by
  have e : ∀ f, f ≤ n → rowF rs f = rowF (rs ++ [v]) f := fun f hf => (rowF_snoc (by omega)).symm
  have e' : ∀ f, f ≤ n → rowF (rs ++ [v]) f = rowF rs f := fun f hf => rowF_snoc (by omega)
  refine ⟨by rw [e' 0 (by omega)]; exact h.zero, fun m hmn => ?_, fun m hmn u hu => ?_⟩
  · by_cases hlt : m < n
    · rw [e' (m + 1) (by omega)]
      exact (h.some m hlt).congr fun f hf => e f (by omega)
    · have : m = n := by omega
      subst this
      rw [rowF_last hl]
      exact hc.congr e
  · by_cases hlt : m < n
    · rw [e' (m + 1) (by omega)]
      exact h.least m hlt u (hu.congr fun f hf => e' f (by omega))
    · have : m = n := by omega
      subst this
      rw [rowF_last hl]
      exact hm u (hu.congr e')
theorem IsRow.init (g : Good) (lights : Nat → Int) : IsRow g lights (rowF [0]) 0 := ⟨rfl, fun m h => by omega, fun m h => by omega⟩
/-! ### the least of the costs of each day of baking -/
def lbos (row lights : Nat → Int) (w : Nat → Nat → Option Int) (m c : Nat) : List (Option Int) := (List.range c).map fun b => lbo row (w b) (m + 1) (lights b) none
/-- a last stretch of the first m + 1 days, baked on one of the first c days -/
def ChC (row lights : Nat → Int) (w : Nat → Nat → Option Int) (c m : Nat) (v : Int) : Prop := ∃ b f s, b < c ∧ f ≤ m ∧ segP (w b) f (m + 1 - f) = some s ∧ v = row f + lights b + s
theorem lbos_mem {row lights : Nat → Int} {w : Nat → Nat → Option Int} {m c : Nat} {v : Int} (h : v ∈ (lbos row lights w m c).filterMap id) : ChC row lights w c m v := by
  obtain ⟨o, ho, e⟩ := List.mem_filterMap.mp h
  have e : o = some v := e
  subst e
  obtain ⟨b, hb, e⟩ := List.mem_map.mp ho
  have hb := List.mem_range.mp hb
  rcases lbo_from _ _ _ _ e with z | ⟨f, s, hf, hs, hv⟩
  · cases z
  · exact ⟨b, f, s, by omega, by omega, hs, hv⟩
theorem lbos_least {row lights : Nat → Int} {w : Nat → Nat → Option Int} {m c : Nat} {u : Int} (h : ChC row lights w c m u) : ∃ v, v ∈ (lbos row lights w m c).filterMap id ∧ v ≤ u := by
  obtain ⟨b, f, s, hb, hf, hs, hu⟩ := h
  obtain ⟨v, h1, h2⟩ := lbo_least (row := row) (w := w b) (m + 1) (lights b) none f s (by omega) hs
  exact ⟨v, List.mem_filterMap.mpr ⟨some v, List.mem_map.mpr ⟨b, List.mem_range.mpr (by omega), h1⟩, rfl⟩, by omega⟩
theorem own_chC {g : Good} {lights row : Nat → Int} {c m : Nat} {d : Day} (hc : m < c) (hd : g.days[m]? = some d) (hl : ∀ l, g.life = some l → 0 ≤ l) : ChC row lights (wantP g) c m (row m + lights m + d.want * d.loaf) := by
  refine ⟨m, m, _, hc, Nat.le_refl _, ?_, rfl⟩
  rw [show m + 1 - m = 0 + 1 by omega]
  have := segP_add (segP_zero (wantP g m) m) (show wantP g m (m + 0) = some (d.want * d.loaf) from wantP_own hd hl)
  rw [this, Int.zero_add]
theorem chC_choice {g : Good} {lights row : Nat → Int} {m : Nat} {v : Int} (h : ChC row lights (wantP g) (m + 1) m v) : Choice g lights row m v := by
  obtain ⟨b, f, s, hb, hf, hs, hv⟩ := h
  exact .inl ⟨b, f, s, by omega, hf, hs, hv⟩
theorem choice_chC {g : Good} {lights row : Nat → Int} {m : Nat} {v : Int} (h : Choice g lights row m v) : ChC row lights (wantP g) (m + 1) m v ∨ v = row m := by
  rcases h with ⟨b, f, s, hb, hf, hs, hv⟩ | ⟨_, h⟩
  · exact .inl ⟨b, f, s, by omega, hf, hs, hv⟩
  · exact .inr h
theorem choice_not {g : Good} {lights row : Nat → Int} {m : Nat} {d : Day} (hd : g.days[m]? = some d) (hw : d.want ≠ 0) {v : Int} (h : Choice g lights row m v) : ChC row lights (wantP g) (m + 1) m v := by
  rcases h with ⟨b, f, s, hb, hf, hs, hv⟩ | ⟨⟨d', h1, h2⟩, _⟩
  · exact ⟨b, f, s, by omega, hf, hs, hv⟩
  · rw [hd] at h1
    cases h1
    exact absurd h2 hw
end Bk

namespace Bk
open PySem PySem.Spec PyProof.Rows L2
theorem rMin_r {K : PySem.W.Frag} {p : Addr} {H : Hp} {Q : VK} : rMin K [.ref p] H Q = ∃ ns : List Int, SqL K H p (ns.map V.int) ∧ 0 < ns.length ∧ ∀ m, m ∈ ns → (∀ y, y ∈ ns → m ≤ y) → Q (.int m) H := propext ⟨fun ⟨a, bs, e, h⟩ => by cases e; exact ⟨bs, h⟩, fun ⟨bs, h⟩ => ⟨p, bs, rfl, h⟩⟩
def lcScope (d : Scope) (l : List Stmt) (i : Nat) : Scope := match l[i]? with
  | some (.Assign _ (.ListComp _ _ sc _) _) => sc
  | _ => d
/-- a comprehension that leaves the Nones out -/
theorem LcR.opts {K : PySem.W.Frag} {a : Addr} {te : TE} {tt : TT} {g : TG} {vs : List Nat} {σ : L2.St} {H1 : Hp} {D : Addr} {Qd : Hp → Prop} (os : List (Option Int)) (hD : H1 D = none) (hl : SqL K H1 a (os.map optV)) (hz : os.length ≤ 1000)
    (hs : ∀ (o : Option Int) (H : Hp) (R : Bool → Hp → (V → Hp → Prop) → Prop), True → ∀ (N : Hp → Prop) (M : V → Hp → Prop), (o = none → N H) → (∀ z, o = some z → M (.int z) H) → g (optV o) (wipe σ vs) H fun σ2 H2 => wipe σ2 vs = wipe σ vs ∧ tt σ2 H2 fun b H3 => if b = true then te σ2 H3 M else N H3)
    (hd : ∀ H, Same H1 H → H D = some (.lst ((os.filterMap id).map V.int)) → Qd H) : LcR (Itl K a) g tt te vs σ D H1 Qd := by
  have e0 : (os.map optV).length = os.length := List.length_map ..
  refine LcR.by (walk_list (xs := os.map optV)) (fun i H => Same H1 H ∧ H D = some (.lst (((os.take i).filterMap id).map V.int))) ⟨same_upd hD, by rw [upd_same]; rfl⟩ (fun i H _ h => h.1.seq hl) (fun i x H H' hi h y => ?_) (fun H h => hd H h.1 ?_)
  · obtain ⟨rfl, hx⟩ := y
    rw [List.getElem?_map] at hx
    obtain ⟨s, e⟩ := h
    cases ho : os[i]? with
    | none => rw [ho] at hx; cases hx
    | some o =>
      rw [ho] at hx
      cases hx
      refine hs o _ (fun _ _ _ => True) trivial _ _ (fun hn => ⟨s, ?_⟩) (fun z hz' => ⟨_, e, ?_, same_mut s hD, ?_⟩)
      · rw [e, List.take_add_one, ho, hn]
        simp
      · have h1 : ((os.take i).filterMap id).length ≤ (os.take i).length := List.length_filterMap_le ..
        rw [List.length_take] at h1
        rw [List.length_map]
        exact sz100l (by omega)
      · rw [upd_same, List.take_add_one, ho, hz']
        simp
  · rw [e0, List.take_length] at h
    exact h.2
theorem ThAll.intsV {K : PySem.W.Frag} {H : Hp} : ∀ {xs : List V} {ns : List Int}, ThAll K H xs (ns.map PyData.int) → xs = ns.map V.int
  | _, [], .nil => rfl
  | _, n :: r, .cons (.int _) t => by rw [ThAll.intsV t]; rfl
theorem life_ok {g : Good} (h : lifeB (optD g.life) = true) : ∀ l, g.life = some l → 0 ≤ l := by
  intro l e
  rw [e] at h
  simp only [optD, lifeB, Bool.and_eq_true, decide_eq_true_eq] at h
  exact h.1
theorem rgV_zero (m : Nat) : rgV 0 (m : Int) = (List.range m).map fun j : Nat => V.int (j : Int) := by
  unfold rgV
  rw [show ((m : Int) - 0).toNat = m by omega]
  apply List.map_congr_left
  intro i _
  rw [Int.zero_add]
end Bk

/-! an own error class over ValueError whose __init__ begins with super().__init__(..) -/
namespace Bk
open PySem PySem.Spec PyProof.Rows L2
/-- what the written part says, besides OexC, of such a class at C and of its __init__, with the cell cc and the code cda -/
structure SupC (P : Program) (K : PySem.W.Frag) (C cc cda : Addr) : Prop where
  code : ∃ ccl cdd vs ccs file tf, K.lookup cda = some ⟨ccl, cdd, .fields vs, ccs⟩ ∧ vs[2]? = some (.str file tf) ∧ ((P.main.file : Str) == file) = true
  cell : ∃ cl cld csl, K.lookup cc = some ⟨cl, cld, .cell (some (.ref C)), csl⟩
  sup : PySem.W.ks_superIn K C C "__init__" = some (some (.builtin "ValueError.__init__"))
  mro : PySem.W.mroIn K C (.ref C) = some true
  sub : PySem.W.subIn K (.ref C) (.type "ValueError") = some true
  super : PySem.W.nsIn K mainGlobals "super" = some none
  opq : PySem.W.nsIn K cStatics "thirdparty.any" = some none
  top : (P.main.scope.names.lookup ("super" : Str)).isSome = false
theorem boot_super : bootBuiltins "super" = some (.type "super") := by decide +kernel
theorem pinAdd {X : Cx} {pins : List (Addr × Obj)} {σ : L2.St} {H : Hp} {s : Shared} (I : Inv X pins σ H s) {u : Addr} {o : Obj} (h1 : s.heap.get? u = some o) (h2 : H u = none) (h3 : u ≠ X.env.locals) (h4 : u ∉ X.fs) (h5 : ∀ v, o.data ≠ .cell v) : Inv X ((u, o) :: pins) σ H s := by
  have hp : ∀ p ∈ X.pn ++ ((u, o) :: pins), s.heap.get? p.1 = some p.2 ∧ H p.1 = none ∧ p.1 ≠ X.env.locals ∧ p.1 ∉ X.fs ∧ ∀ v, p.2.data ≠ .cell v := by
    intro p hp
    rcases List.mem_append.mp hp with z | z
    · exact I.pin p (List.mem_append_left _ z)
    · rcases List.mem_cons.mp z with z | z
      · rw [z]
        exact ⟨h1, h2, h3, h4, h5⟩
      · exact I.pin p (List.mem_append_right _ z)
  exact ⟨I.ok, I.os, I.bare, I.base, I.loc, I.cell, I.free, I.freeC, hp, I.hok, I.len⟩
/-- the bound ValueError.__init__, called -/
theorem sup_call {X : Cx} {pins : List (Addr × Obj)} {σ : L2.St} {H : Hp} {s : Shared} {a C u : Addr} {us : List Value} {A : Around} {Q : Value → Shared → Prop} {E : Value → Shared → Prop} (T : OexC X.K C) (I : Inv X pins σ H s) (e : H a = some (exo a C none)) (hu : s.heap.get? u = some (PySem.W.kxs_mw "ValueError.__init__" a)) (hl : us.length ≤ sizeLine)
    (h : ∀ s', Inv X pins σ H s' → Q .none s') : wpAny (model X.prog X.w) A (call (.ref u) us) Q E s := by
  obtain ⟨nm, q, N, bs, bm, sn, sub, ab, col, dd, k0, k1, k2, k3, k5, hC, hbm⟩ := T.cls
  obtain ⟨t1, ho⟩ := exo_at I.hok e
  have hC := I.kIn _ _ hC
  obtain ⟨hp, g, d, t, os⟩ := s
  refine wpAny_call (codeAny_of_tree ?_)
  show wpAny _ A.in1 (callAny (.ref u) ⟨us, []⟩) _ _ _
  simp only [callAny]
  refine wpAny_bind (wpAny_load hu ?_)
  simp only [PySem.W.kxs_mw, show (Value.type "method-wrapper" == Value.type "method" || Value.type "method-wrapper" == Value.type "builtin_function_or_method" || Value.type "method-wrapper" == Value.type "method-wrapper") = true by decide, if_true]
  refine PySem.W.KFB.if_so (by decide) ?_
  refine wpAny_bind (PySem.W.check_bound_init F.excBase_ValueError.toExcCallFacts hC ho rfl ?_)
  refine wpAny_bind (wpAny_pure (wpAny_pure ?_))
  refine ⟨plainId_quiet F.excBase_ValueError.init.plain _, codeAny_builtin F.excBase_ValueError.initEntry ?_⟩
  rw [Around.under_plainId F.excBase_ValueError.init.plain _]
  refine PySem.W.exc_init_tree (cls := .ref C) (t0 := t1) (dv := none) (c2 := .none) (c3 := .none) (b4 := .bool false) ho hl fun h' k hx _ => ?_
  have J := I.write (t' := t) (x := a) (e := a) (o := exo a C none) (by rw [e]; exact True.intro) (.inl rfl) k ⟨_, hx⟩ (exo_ok hx)
  have eu : upd H a (exo a C none) = H := by
    funext b
    by_cases hb : b = a
    · rw [hb, upd_same, e]
    · rw [upd_ne hb]
  rw [eu] at J
  exact h _ J
section
open NdefX
variable {CX : CXT} {P : Program} {w : World} {K : PySem.W.Frag} {mg : Str → Option Value} {base : Heap} {N pr : List Str} {f C cc cda : Addr} {k : Nat} {sp : Sp}
  {qual : Str} {params : Arguments} {scope : Scope} {dV kV doc pm ct oc : Value} {an od : Option Addr} {osl : Array (Option Value)} {e : Expr} {es : List Expr} {rest : List Stmt} {p0 p1 p2 pos posE pa : Pos} {ann : Option Expr} {more : List Arg}
/-- __init__ of such a class, by what stands behind super().__init__(..) -/
theorem fn_sup (lk : K.lookup f = some ⟨oc, od, .func (PySem.W.ksFn "__init__" qual params (.Expr (.Call (.Attribute (.Call (.Name "super" p0) [] [] p1) "__init__" p2) (e :: es) [] pos) posE :: rest) scope dV kV doc pm an (.ref cda) ct cc), osl⟩)
    (hcd : PySem.W.codeIn K (.ref cda) qual = true) (T : OexC K C) (U : SupC P K C cc cda) (S : NScope N (("self" : Str) :: pr) ["__class__"] scope) (hsup : scope.names.lookup ("super" : Str) = some .globalImplicit)
    (hpar : (params.posonlyargs ++ params.args).head? = some ⟨"self", ann, pa⟩)
    (len : ∀ vs H Q E, sp vs H Q E → vs.length = (("self" : Str) :: pr).length)
    (hbody : ∀ (A : Around) (outer : List Env) (s : Shared) (H : Hp) (vs : List V) (Q : VK) (E : XK), sp vs H Q E →
      ∃ (a : Addr) (vr : List V) (ta : TA) (t : TS), vs = .ref a :: vr ∧ H a = some (exo a C none) ∧
        PA (ncx CX P w K mg base N ⟨"__init__", qual, params, (.Expr (.Call (.Attribute (.Call (.Name "super" p0) [] [] p1) "__init__" p2) (e :: es) [] pos) posE :: rest), scope, [("__class__", cc)], cda⟩ f A outer s H E) (e :: es) ta ∧
        PSs (ncx CX P w K mg base N ⟨"__init__", qual, params, (.Expr (.Call (.Attribute (.Call (.Name "super" p0) [] [] p1) "__init__" p2) (e :: es) [] pos) posE :: rest), scope, [("__class__", cc)], cda⟩ f A outer s H E) rest t ∧
        ta (startF N vs [none]) H fun ws H1 => ws.length ≤ 1000 ∧ H1 = H ∧ t { nx := fun _ H' => Q .non H', rt := Q } (startF N vs [none]) H)
    (he : ∀ env, starEach (e :: es) env = (false, eval e env) :: starEach es env := by intro _; rfl) (hpl : ∀ env, (backTo pos (starEach es env)).any (·.1) = false := by intro _; rfl)
    (hev : ∀ env, ∃ pl, eval (.Call (.Attribute (.Call (.Name "super" p0) [] [] p1) "__init__" p2) (e :: es) [] pos) env = (do
      let ov ← attributeBase (.Call (.Name "super" p0) [] [] p1) "__init__" env (eval (.Call (.Name "super" p0) [] [] p1) env)
      standAt p2.atName
      let (f, first) ← holding [ov] (getMethod ov "__init__" pl)
      callWith pos f first (backTo pos (starEach (e :: es) env)) []) := by intro _; exact ⟨_, rfl⟩)
    (hsw : ∀ env, swapsWith (.Call (.Attribute (.Call (.Name "super" p0) [] [] p1) "__init__" p2) (e :: es) [] pos) none posE.line env = pure false := by intro _; rfl) :
    FnOk P w K mg base CX (k + 1) f (PySem.W.ksFn "__init__" qual params (.Expr (.Call (.Attribute (.Call (.Name "super" p0) [] [] p1) "__init__" p2) (e :: es) [] pos) posE :: rest) scope dV kV doc pm an (.ref cda) ct cc) (("self" : Str) :: pr) sp := by
  refine ⟨len, fun A outer s H args us vs Q E hr e0 hb r hsp => ?_⟩
  have hl := len _ _ _ _ hsp
  have KX : K.In s.heap := e0.mod.kin.keeps fun b o e => (e0.bs b o e).1
  have lim : s.heap.NoLimit := e0.mod.nolimit.keeps fun b o e => (e0.bs b o e).1
  obtain ⟨ccl, cdd, vsC, ccs, file, tf, hcode, hvs, hfile⟩ := U.code
  obtain ⟨cl, cld, csl, hcell⟩ := U.cell
  obtain ⟨a, vr, ta, t, rfl, ha, hPA, hPS, hta⟩ := hbody A outer s H vs Q E hsp
  refine ks_codeAny_call_defAt (binds := (("self" : Str) :: pr).zip us) hr.depth (KX _ _ lk) rfl lim (PySem.W.codeRec_of KX hcd) rfl hb S.nocell (fun ⟨n, v⟩ hy => S.par n (List.of_mem_zip hy).1) (fun h₁ hns kp => ?_) S.co S.gen S.kind
  have look1 : ∀ {y : Str} {c : Addr}, List.lookup y [(("__class__" : Str), cc)] = some c → y = "__class__" ∧ c = cc := fun {y c} e => by
    by_cases h : y = "__class__"
    · subst h
      simp [List.lookup] at e
      exact ⟨rfl, e.symm⟩
    · have h : (y == ("__class__" : Str)) = false := by simpa using h
      simp [List.lookup, h] at e
  have CA : CellsAt [(("__class__" : Str), cc)] ["__class__"] [none] s.heap H := by
    refine ⟨rfl, fun y c e => ?_, fun x y c h1 h2 => ?_, fun i y hi => ?_⟩
    · obtain ⟨rfl, rfl⟩ := look1 e
      exact ⟨(e0.bs _ _ (e0.mod.kin _ _ hcell)).2, _, _, KX _ _ hcell, rfl⟩
    · rw [(look1 h1).1, (look1 h2).1]
    · cases i with
      | zero =>
        cases hi
        exact ⟨cc, by simp [List.lookup], fun v hv => by cases hv⟩
      | succ i => cases hi
  have I : Inv (ncx CX P w K mg base N ⟨"__init__", qual, params, (.Expr (.Call (.Attribute (.Call (.Name "super" p0) [] [] p1) "__init__" p2) (e :: es) [] pos) posE :: rest), scope, [("__class__", cc)], cda⟩ f A outer s H E) [] (startF N (.ref a :: vr) [none]) H { s with heap := h₁, toks := s.toks + ((("self" : Str) :: pr).zip us).length } := inv_startN S hr.hd e0 hl r CA hns kp
  have KX1 : K.In h₁ := KX.keeps kp
  obtain ⟨oC, hC1, hC2⟩ : ∃ oD cdD, h₁.get? C = some oD ∧ oD.data = .cls cdD := by
    obtain ⟨nm, q, N', bs, bm, sn, sub, ab, col, dd, k0, k1, k2, k3, k5, hC, hbm⟩ := T.cls
    exact ⟨_, _, KX1 _ _ hC, rfl⟩
  obtain ⟨t1, hx⟩ := exo_at I.hok ha
  obtain ⟨hC2, hC3⟩ := hC2
  cases r with
  | cons ra rr =>
  rename_i u0 ur
  obtain rfl : u0 = Value.ref a := ra
  have hint : interactive (callEnv (PySem.W.ksFn "__init__" qual params (.Expr (.Call (.Attribute (.Call (.Name "super" p0) [] [] p1) "__init__" p2) (e :: es) [] pos) posE :: rest) scope dV kV doc pm an (.ref cda) ct cc) s.heap.objs.size f) = false := by
    show (scope.kind == .module && _) = false
    rw [S.kind]
    rfl
  obtain ⟨pl, hpl'⟩ := hev (callEnv (PySem.W.ksFn "__init__" qual params (.Expr (.Call (.Attribute (.Call (.Name "super" p0) [] [] p1) "__init__" p2) (e :: es) [] pos) posE :: rest) scope dV kV doc pm an (.ref cda) ct cc) s.heap.objs.size f)
  refine ks_wpAt_execs_cons (ks_wpAt_Expr_any (ks_wpAt_MethodCall (pl := pl) (ks_wpAt_super_base (ar := ⟨"self", ann, pa⟩) hsup (S.frk _ (by simp)) (by decide) rfl (KX1 _ _ lk) rfl hpar rfl (KX1 _ _ hcode) rfl hvs hfile U.top ?_) hpl') hint (hsw _))
  have hnd : ((("self" : Str)) :: pr).Nodup := by
    have q := S.nd.sublist (List.take_sublist (((("self" : Str)) :: pr).length + ([("__class__" : Str)]).length) N)
    rw [S.pre] at q
    exact (List.nodup_append.mp q).1
  obtain ⟨mb, hb1, hb2⟩ := e0.mod.blt
  have up1 : ∀ b o, base.get? b = some o → h₁.get? b = some o := fun b o z => kp b o (e0.bs b o z).1
  refine PySem.W.ks_loadName_global S.kind hsup (Calls.loadGlobal_builtin (e0.mod.glob.keeps up1) (PySem.W.mg_none_of e0.mod.kin e0.mod.glob U.super) (hb1.keeps up1) ((hb2 _ (by decide +kernel)).trans boot_super) ⟨rfl, ?_⟩)
  refine wpAny_loadName_free S.kind (S.frk _ (by simp)) (show List.lookup _ [(("__class__" : Str), cc)] = some cc by simp [List.lookup]) ⟨_, KX1 _ _ hcell, rfl⟩ ?_
  refine wpAny_loadName_local S.kind (S.par _ (by simp)) hns (v := .ref a) (zip_look (i := 0) hnd rfl rfl) ?_
  refine ks_wpAny_isType_cls hC2 hC3 ⟨rfl, ?_⟩
  refine ks_wpAny_call_super hC2 hC3 hx rfl (fun c z => by cases z) (PySem.W.looks_mroIn KX1 U.mro) (fun h' eso k' => ?_)
  have KX2 : K.In h' := KX1.keeps k'
  have hx2 := k' _ _ hx
  obtain ⟨cd, hcl⟩ : ∃ cd, PySem.W.clsIn K C = some cd := by
    obtain ⟨nm, q, N', bs, bm, sn, sub, ab, col, dd, k0, k1, k2, k3, k5, hC, hbm⟩ := T.cls
    exact ⟨_, by unfold PySem.W.clsIn; rw [hC] <;> rfl⟩
  have hsp := U.sup
  unfold PySem.W.ks_superIn at hsp
  rw [hcl] at hsp
  have IA : PySem.W.InstAt h' a _ C none := ⟨hx2, rfl, rfl, trivial⟩
  refine PySem.W.kxs_getMethod PySem.W.kxs_ValueError eso (PySem.W.looks_opaque KX2 U.opq) (l₀ := cd.mro) (fun A Q E s k q => wpAny_bind ((PySem.W.looks_clsIn KX2 hcl) A _ E s k (wpAny_pure q))) rfl KX2 hsp (IA.type.andThen (PySem.W.looks_subIn KX2 U.sub)) (PySem.W.ks_ne KX2 IA hcl) (by decide) ?_
  have k2 : ∀ b o, h₁.get? b = some o → (h'.push (PySem.W.kxs_mw "ValueError.__init__" a)).get? b = some o := fun b o z => Heap.get?_push_of_some _ (k' b o z)
  have hu : (h'.push (PySem.W.kxs_mw "ValueError.__init__" a)).get? h'.objs.size = some (PySem.W.kxs_mw "ValueError.__init__" a) := Heap.get?_push_at rfl rfl
  have I2 := I.kept (t' := s.toks + ((("self" : Str) :: pr).zip (Value.ref a :: ur)).length + 1) k2
  have hnu : ∀ {b : Addr} {o : Obj}, h₁.get? b = some o → b ≠ h'.objs.size := fun {b o} z => Nat.ne_of_lt (Heap.lt_size (k' b o z))
  have hsz : h₁.objs.size ≤ h'.objs.size := Nat.le_of_lt (Heap.lt_size eso)
  have I3 := pinAdd I2 (u := h'.objs.size) (o := PySem.W.kxs_mw "ValueError.__init__" a) hu (I.hok.fresh hsz) (fun z => by have q := I.lt; have z : h'.objs.size = s.heap.objs.size := z; have q : s.heap.objs.size < h₁.objs.size := q; omega) (I.nofs hsz) (fun v z => by cases z)
  rw [he]
  refine PySem.W.kxs_callWith (i := "ValueError.__init__") (x := a) (by show (false || (backTo pos (starEach es _)).any (·.1)) = false; rw [hpl]; rfl) (Calls.evalArgs_plain ?_)
  have hrun := hPA.run pos _ _ _ _ _ I3 hta
  rw [he] at hrun
  refine wpAny_mono hrun (fun us' s1 hq => ?_) fun _ _ z => z
  obtain ⟨vs', H1, I4, r4, hl4, rfl, ht⟩ := hq
  obtain ⟨hu4, _⟩ := I4.pin (h'.objs.size, PySem.W.kxs_mw "ValueError.__init__" a) (List.mem_append_right _ List.mem_cons_self)
  refine ⟨hu4, sup_call T I4 ha hu4 (by show us'.length ≤ _; rw [← Paired.length r4, sizeLine_eq]; omega) fun s5 I5 => ?_⟩
  refine wpAt_of_wpAny ?_
  refine wpAny_mono (hPS.run _ s5 _ H1 _ I5 ht) (fun fl s' hs => ?_) fun _ _ z => z
  have fin : ∀ {pins : List (Addr × Obj)} {σ' : L2.St} {H' : Hp} {v : V} {u : Value}, Inv (ncx CX P w K mg base N ⟨"__init__", qual, params, (.Expr (.Call (.Attribute (.Call (.Name "super" p0) [] [] p1) "__init__" p2) (e :: es) [] pos) posE :: rest), scope, [("__class__", cc)], cda⟩ f A outer s H1 E) pins σ' H' s' → L2.RelV v u → Q v H' → CE outer P w H1 s Q u s' :=
    fun {pins σ' H' v u} J rv q => ⟨v, H', J.os, J.bare, J.base, J.hok, rv, q⟩
  cases fl with
  | ret u =>
    obtain ⟨v, σ', H', J, rv, q⟩ := hs
    exact fin J rv q
  | next =>
    obtain ⟨σ', H', J, q⟩ := hs
    exact fin (v := V.non) (u := Value.none) J rfl q
  | brk =>
    obtain ⟨_, _, _, q⟩ := hs
    exact False.elim q
  | cont =>
    obtain ⟨_, _, _, q⟩ := hs
    exact False.elim q
end
end Bk

namespace Bk
open PySem PySem.Spec PyProof.Rows L2
/-! ### rows rise where nothing may wait -/
structure NonNegW (ds : List Day) : Prop where
  nn : NonNeg ds
  want : ∀ d ∈ ds, 0 ≤ d.want
  loaf : ∀ d ∈ ds, 0 ≤ d.loaf
theorem nonNegW_of {ds : List Day} (h : ∀ d ∈ ds, dayB (dayD d) = true) : NonNegW ds := by
  have num : ∀ i : Int, numD (.int i) = true → 0 ≤ i := fun i h => by
    simp only [numD, Bool.and_eq_true, decide_eq_true_eq] at h
    exact h.1
  have k : ∀ d ∈ ds, (numD (.int d.want) = true ∧ numD (.int d.loaf) = true) ∧ numD (.int d.keep) = true ∧ ∀ i, d.fine = some i → numD (.int i) = true := by
    intro d hd
    have k := h d hd
    simp only [dayD, dayB, Bool.and_eq_true] at k
    refine ⟨k.1.1, k.1.2, fun i e => ?_⟩
    have k2 := k.2
    rw [e] at k2
    simpa [optD, noneB] using k2
  exact ⟨⟨fun d hd => num _ (k d hd).2.1, fun d hd i e => num _ ((k d hd).2.2 i e)⟩, fun d hd => num _ (k d hd).1.1, fun d hd => num _ (k d hd).1.2⟩
theorem loafP_nonneg {g : Good} (N : NonNegW g.days) {b k : Nat} {z : Int} (h : loafP g b k = some z) : 0 ≤ z := by
  cases hd : g.days[b]? with
  | none =>
    unfold loafP at h
    rw [hd] at h
    cases h
  | some d =>
    rw [loafP_ext hd] at h
    have h0 := N.loaf d (List.mem_of_getElem? hd)
    cases he : extP g b k with
    | none => rw [he] at h; cases h
    | some e =>
      rw [he] at h
      have h : d.loaf + e = z := Option.some.inj h
      have : 0 ≤ e := by
        by_cases hkb : k < b
        · exact finesL_nonneg N.nn ((ext_fine hkb).mp he)
        · rw [← ((ext_keep (by omega)).mp he).2]
          exact keepsL_nonneg N.nn _ _
      omega
theorem wantP_nonneg {g : Good} (N : NonNegW g.days) {b k : Nat} {z : Int} (h : wantP g b k = some z) : 0 ≤ z := by
  unfold wantP at h
  cases hd : g.days[k]? with
  | none => rw [hd] at h; cases h
  | some d =>
    rw [hd] at h
    dsimp only at h
    split at h
    · have h : (0 : Int) = z := Option.some.inj h
      omega
    · cases hp : loafP g b k with
      | none => rw [hp] at h; cases h
      | some y =>
        rw [hp] at h
        have h : d.want * y = z := Option.some.inj h
        rw [← h]
        exact Int.mul_nonneg (N.want d (List.mem_of_getElem? hd)) (loafP_nonneg N hp)
theorem wantP_late {g : Good} (nf : ∀ d ∈ g.days, d.fine = none) {b k : Nat} (hk : k < b) {z : Int} (h : wantP g b k = some z) : ∃ d, g.days[k]? = some d ∧ d.want = 0 := by
  unfold wantP at h
  cases hd : g.days[k]? with
  | none => rw [hd] at h; cases h
  | some d =>
    rw [hd] at h
    dsimp only at h
    split at h
    · exact ⟨d, rfl, by assumption⟩
    · exfalso
      cases hp : loafP g b k with
      | none => rw [hp] at h; cases h
      | some y =>
        cases hb : g.days[b]? with
        | none =>
          unfold loafP at hp
          rw [hb] at hp
          cases hp
        | some d' =>
          rw [loafP_ext hb] at hp
          cases he : extP g b k with
          | none => rw [he] at hp; cases hp
          | some e =>
            have hf := (ext_fine hk).mp he
            unfold finesL at hf
            obtain ⟨hlt, e1⟩ := List.getElem?_eq_some_iff.mp hd
            rw [List.drop_eq_getElem_cons hlt, e1, show b - k = (b - k - 1) + 1 by omega] at hf
            have hf : sumO (d.fine :: ((g.days.drop (k + 1)).take (b - k - 1)).map Day.fine) = some e := hf
            rw [nf d (List.mem_of_getElem? hd)] at hf
            cases hf
theorem segP_all {w : Nat → Option Int} {f : Nat} : ∀ {n : Nat} {s : Int}, segP w f n = some s → ∀ i, i < n → ∃ z, w (f + i) = some z
  | 0, _, _, i, hi => by omega
  | n + 1, s, h, i, hi => by
    obtain ⟨x, y, h1, h2, _⟩ := segP_succ h
    by_cases e : i < n
    · exact segP_all h1 i e
    · have : i = n := by omega
      subst this
      exact ⟨y, h2⟩
theorem segP_nonneg {w : Nat → Option Int} {f : Nat} (nn : ∀ k z, w k = some z → 0 ≤ z) : ∀ {n : Nat} {s : Int}, segP w f n = some s → 0 ≤ s
  | 0, s, h => by
    have : (0 : Int) = s := Option.some.inj h
    omega
  | n + 1, s, h => by
    obtain ⟨x, y, h1, h2, h3⟩ := segP_succ h
    have := segP_nonneg nn h1
    have := nn _ _ h2
    omega
theorem row_flat {g : Good} {lights row : Nat → Int} {n : Nat} (h : IsRow g lights row n) {f : Nat} : ∀ m, f ≤ m → m ≤ n → (∀ k, f ≤ k → k < m → ∃ d, g.days[k]? = some d ∧ d.want = 0) → row m ≤ row f
  | 0, h1, _, _ => by rw [show f = 0 by omega]; exact Int.le_refl _
  | m + 1, h1, h2, hz => by
    by_cases e : f = m + 1
    · rw [e]; exact Int.le_refl _
    · have a := row_flat h m (by omega) (by omega) fun k k1 k2 => hz k k1 (by omega)
      have b := h.least m (by omega) _ (.inr ⟨hz m (by omega) (by omega), rfl⟩)
      omega
theorem row_up {g : Good} {lights row : Nat → Int} {n : Nat} (h : IsRow g lights row n) (hl : ∀ b, 0 ≤ lights b) (N : NonNegW g.days) (nf : ∀ d ∈ g.days, d.fine = none) {m : Nat} (hm : m < n) : row m ≤ row (m + 1) := by
  rcases h.some m hm with ⟨b, f, s, hb, hf, hs, hv⟩ | ⟨_, hv⟩
  · have lb := hl b
    have sn : 0 ≤ s := segP_nonneg (fun k z e => wantP_nonneg N e) hs
    by_cases e : f = m
    · subst e
      omega
    · rw [show m + 1 - f = (m - f) + 1 by omega] at hs
      obtain ⟨x, y, h1, h2, h3⟩ := segP_succ hs
      have yn := wantP_nonneg N h2
      by_cases eb : b < m
      · have := h.least (m - 1) (by omega) (row f + lights b + x) (.inl ⟨b, f, x, by omega, by omega, by rw [show m - 1 + 1 - f = m - f by omega]; exact h1, rfl⟩)
        rw [show m - 1 + 1 = m by omega] at this
        omega
      · have eb : b = m := by omega
        subst eb
        have := row_flat h b (f := f) (by omega) (by omega) fun k k1 k2 => by
          obtain ⟨z, hz⟩ := segP_all h1 (k - f) (by omega)
          rw [show f + (k - f) = k by omega] at hz
          exact wantP_late nf k2 hz
        omega
  · omega
theorem rowF_nonneg {ls : List Int} (h : ∀ z ∈ ls, 0 ≤ z) (b : Nat) : 0 ≤ rowF ls b := by
  unfold rowF
  rw [List.getD_eq_getElem?_getD]
  cases e : ls[b]? with
  | none => exact Int.le_refl 0
  | some z => exact h z (List.mem_of_getElem? e)
/-! ### lists of days, compared -/
theorem Choice.lights {g : Good} {lights lights' row : Nat → Int} {m : Nat} {v : Int} (e : ∀ b, b ≤ m → lights b = lights' b) (h : Choice g lights row m v) : Choice g lights' row m v := by
  rcases h with ⟨b, f, s, h1, h2, h3, h4⟩ | h
  · exact .inl ⟨b, f, s, h1, h2, h3, by rw [← e b h1]; exact h4⟩
  · exact .inr h
theorem row_lights {g : Good} {lights lights' row : Nat → Int} {n : Nat} (e : ∀ b, b < n → lights b = lights' b) (h : IsRow g lights row n) : IsRow g lights' row n :=
  ⟨h.zero, fun m hm => (h.some m hm).lights fun b hb => e b (by omega), fun m hm v hv => h.least m hm v (hv.lights fun b hb => (e b (by omega)).symm)⟩
theorem rowF_take {ls : List Int} {m b : Nat} (h : b < m) : rowF (ls.take m) b = rowF ls b := by
  unfold rowF
  rw [List.getD_eq_getElem?_getD, List.getD_eq_getElem?_getD, List.getElem?_take_of_lt h]
end Bk

namespace Bk
open PySem PySem.Spec PyProof.Rows L2
/-! ### sums -/
def sumN (f : Nat → Int) : Nat → Int
  | 0 => 0
  | n + 1 => sumN f n + f n
theorem sumN_le {f f' : Nat → Int} : ∀ n, (∀ k, k < n → f k ≤ f' k) → sumN f n ≤ sumN f' n
  | 0, _ => Int.le_refl 0
  | n + 1, h => by
    have a := sumN_le n fun k hk => h k (by omega)
    have b := h n (by omega)
    show sumN f n + f n ≤ sumN f' n + f' n
    omega
theorem sumN_congr {f f' : Nat → Int} (n : Nat) (h : ∀ k, k < n → f k = f' k) : sumN f n = sumN f' n := by
  have a := sumN_le n fun k hk => Int.le_of_eq (h k hk)
  have b := sumN_le n fun k hk => Int.le_of_eq (h k hk).symm
  omega
theorem sumN_add (f f' : Nat → Int) : ∀ n, sumN (fun k => f k + f' k) n = sumN f n + sumN f' n
  | 0 => rfl
  | n + 1 => by
    show sumN (fun k => f k + f' k) n + (f n + f' n) = (sumN f n + f n) + (sumN f' n + f' n)
    rw [sumN_add f f' n]
    omega
theorem sumN_zero {f : Nat → Int} (n : Nat) (h : ∀ k, k < n → f k = 0) : sumN f n = 0 := by
  rw [sumN_congr (f' := fun _ => 0) n h]
  induction n with
  | zero => rfl
  | succ n ih =>
    show sumN (fun _ => 0) n + 0 = 0
    rw [ih fun k hk => h k (by omega)]
    rfl
theorem sumN_nonneg {f : Nat → Int} (n : Nat) (h : ∀ k, k < n → 0 ≤ f k) : 0 ≤ sumN f n := by
  have := sumN_le (f := fun _ => 0) n h
  rw [sumN_zero n fun _ _ => rfl] at this
  exact this
theorem sumN_split (f : Nat → Int) (m : Nat) : ∀ n, sumN f (m + n) = sumN f m + sumN (fun i => f (m + i)) n
  | 0 => by
    show sumN f m = sumN f m + 0
    omega
  | n + 1 => by
    show sumN f (m + n) + f (m + n) = sumN f m + (sumN (fun i => f (m + i)) n + f (m + n))
    rw [sumN_split f m n]
    omega
theorem sumN_grow {f : Nat → Int} {m n : Nat} (hmn : m ≤ n) (h : ∀ k, k < n → 0 ≤ f k) : sumN f m ≤ sumN f n := by
  have e := sumN_split f m (n - m)
  rw [show m + (n - m) = n by omega] at e
  have := sumN_nonneg (f := fun i => f (m + i)) (n - m) fun k hk => h _ (by omega)
  omega
theorem sumN_one {L : Nat → Int} {b : Nat} : ∀ n, b < n → sumN (fun x => if x = b then L x else 0) n = L b
  | 0, h => by omega
  | n + 1, h => by
    show sumN (fun x => if x = b then L x else 0) n + (if n = b then L n else 0) = L b
    by_cases e : n = b
    · subst e
      rw [if_pos rfl, sumN_zero n fun k hk => if_neg (by omega)]
      omega
    · rw [if_neg e, sumN_one n (by omega)]
      omega
theorem segP_of {w : Nat → Option Int} {q : Nat → Int} {f : Nat} : ∀ n, (∀ i, i < n → w (f + i) = some (q (f + i))) → segP w f n = some (sumN (fun i => q (f + i)) n)
  | 0, _ => rfl
  | n + 1, h => segP_add (segP_of n fun i hi => h i (by omega)) (h n (by omega))
theorem exists_least {P : Nat → Prop} (h : ∃ n, P n) : ∃ n, P n ∧ ∀ m, m < n → ¬ P m := by
  obtain ⟨n, hn⟩ := h
  induction n using Nat.strongRecOn with
  | ind n ih =>
    by_cases h : ∃ m, m < n ∧ P m
    · obtain ⟨m, hm, pm⟩ := h
      exact ih m hm pm
    · exact ⟨n, hn, fun m hm pm => h ⟨m, hm, pm⟩⟩
theorem exists_last {P : Nat → Prop} {n : Nat} (h : ∃ k, k < n ∧ P k) : ∃ k, k < n ∧ P k ∧ ∀ m, k < m → m < n → ¬ P m := by
  induction n with
  | zero =>
    obtain ⟨k, hk, _⟩ := h
    omega
  | succ n ih =>
    by_cases hn : P n
    · exact ⟨n, by omega, hn, fun m h1 h2 => by omega⟩
    · obtain ⟨k, hk, pk⟩ := h
      have : k < n := by
        by_cases e : k = n
        · subst e; exact absurd pk hn
        · omega
      obtain ⟨k', h1, h2, h3⟩ := ih ⟨k, this, pk⟩
      refine ⟨k', by omega, h2, fun m m1 m2 => ?_⟩
      by_cases e : m = n
      · subst e; exact hn
      · exact h3 m m1 (by omega)
/-! ### what a set of lit days costs -/
def wantN (g : Good) (k : Nat) : Int := match g.days[k]? with
  | none => 0
  | some d => d.want
structure MinP (g : Good) (S : Nat → Prop) (n k : Nat) (z : Int) : Prop where
  ex : ∃ b, b < n ∧ S b ∧ loafP g b k = some z
  le : ∀ b, b < n → S b → ∀ y, loafP g b k = some y → z ≤ y
open Classical in
noncomputable def litSum (lights : Nat → Int) (S : Nat → Prop) (n : Nat) : Int := sumN (fun b => if S b then lights b else 0) n
structure SetC (g : Good) (lights : Nat → Int) (S : Nat → Prop) (n : Nat) (p : Nat → Int) (c : Int) : Prop where
  min : ∀ k, k < n → wantN g k ≠ 0 → MinP g S n k (p k)
  cost : c = litSum lights S n + sumN (fun k => wantN g k * p k) n
theorem wantP_of {g : Good} {b k : Nat} {z : Int} (hk : k < g.days.length) (h : wantN g k ≠ 0 → loafP g b k = some z) : wantP g b k = some (wantN g k * z) := by
  have hd : g.days[k]? = some g.days[k] := List.getElem?_eq_getElem hk
  unfold wantN at h ⊢
  unfold wantP
  rw [hd] at h ⊢
  dsimp only at h ⊢
  by_cases e : g.days[k].want = 0
  · rw [if_pos e, e, Int.zero_mul]
  · rw [if_neg e, h e]
    rfl
theorem wantN_nonneg {g : Good} (N : NonNegW g.days) (k : Nat) : 0 ≤ wantN g k := by
  unfold wantN
  cases hd : g.days[k]? with
  | none => exact Int.le_refl 0
  | some d => exact N.want d (List.mem_of_getElem? hd)
theorem wantN_zero {g : Good} {k : Nat} (hk : k < g.days.length) (h : wantN g k = 0) : ∃ d, g.days[k]? = some d ∧ d.want = 0 := by
  have hd : g.days[k]? = some g.days[k] := List.getElem?_eq_getElem hk
  refine ⟨_, hd, ?_⟩
  unfold wantN at h
  rw [hd] at h
  exact h
/-- the first day of the set on which day k's loaves cost p -/
structure Sm (g : Good) (S : Nat → Prop) (n : Nat) (p : Nat → Int) (k b : Nat) : Prop where
  lt : b < n
  mem : S b
  at_ : loafP g b k = some (p k)
  first : ∀ b', b' < b → S b' → loafP g b' k ≠ some (p k)
theorem sm_ex {g : Good} {S : Nat → Prop} {n : Nat} {p : Nat → Int} {k : Nat} (h : MinP g S n k (p k)) : ∃ b, Sm g S n p k b := by
  obtain ⟨b, ⟨h1, h2, h3⟩, h4⟩ := exists_least h.ex
  exact ⟨b, h1, h2, h3, fun b' hb' hs e => h4 b' hb' ⟨by omega, hs, e⟩⟩
theorem sm_uniq {g : Good} {S : Nat → Prop} {n : Nat} {p : Nat → Int} {k b b' : Nat} (h : Sm g S n p k b) (h' : Sm g S n p k b') : b = b' := by
  by_cases e : b < b'
  · exact absurd h.at_ (h'.first b e h.mem)
  · by_cases e' : b' < b
    · exact absurd h'.at_ (h.first b' e' h'.mem)
    · omega
theorem sm_mono {g : Good} (N : NonNeg g.days) {S : Nat → Prop} {n : Nat} {p : Nat → Int} (hn : n ≤ g.days.length) {k k' b b' : Nat} (hk : k < k') (mk : MinP g S n k (p k)) (mk' : MinP g S n k' (p k')) (h : Sm g S n p k b) (h' : Sm g S n p k' b') : b ≤ b' := by
  by_cases e : b ≤ b'
  · exact e
  · exfalso
    have hb := h.lt
    obtain ⟨z, t, h1, h2, h3⟩ := loaf_cross N (show b' < b by omega) hk (by omega) h'.at_ h.at_
    have a1 := mk'.le b h.lt h.mem t h2
    have a2 := mk.le b' h'.lt h'.mem z h1
    exact h.first b' (by omega) h'.mem (by rw [h1, show z = p k by omega])
theorem finesL_join {ds : List Day} {i j k : Nat} {x y : Int} (h1 : i ≤ j) (h2 : j ≤ k) (a : finesL ds i j = some x) (b : finesL ds j k = some y) : finesL ds i k = some (x + y) := by
  unfold finesL at a b ⊢
  rw [seg_split ds h1 h2, List.map_append]
  exact sumO_join' a b
theorem loafP_ext' {g : Good} {j k : Nat} {d : Day} {z : Int} (hd : g.days[j]? = some d) (h : loafP g j k = some z) : ∃ e, extP g j k = some e ∧ d.loaf + e = z := by
  rw [loafP_ext hd] at h
  cases he : extP g j k with
  | none => rw [he] at h; cases h
  | some e =>
    rw [he] at h
    exact ⟨e, rfl, Option.some.inj h⟩
/-- who waits for a day takes all wants up to that day along -/
theorem sm_wait {g : Good} (N : NonNeg g.days) (hl : ∀ l, g.life = some l → 0 ≤ l) {S : Nat → Prop} {n : Nat} {p : Nat → Int} (hn : n ≤ g.days.length) {k k' b b' : Nat} (hk : k < k') (hb : k' ≤ b) (mk : MinP g S n k (p k)) (mk' : MinP g S n k' (p k')) (h : Sm g S n p k b) (h' : Sm g S n p k' b') : b' = b := by
  have hle := sm_mono N hn hk mk mk' h h'
  by_cases e : b' = b
  · exact e
  · exfalso
    have hlt : b < b' := by omega
    have l1 := h.lt
    have l2 := h'.lt
    have db : g.days[b]? = some (g.days[b]'(by omega)) := List.getElem?_eq_getElem (by omega)
    have db' : g.days[b']? = some (g.days[b']'(by omega)) := List.getElem?_eq_getElem (by omega)
    generalize g.days[b]'(by omega) = d at db
    generalize g.days[b']'(by omega) = d' at db'
    obtain ⟨x, hx, ex⟩ := loafP_ext' db h.at_
    obtain ⟨y, hy, ey⟩ := loafP_ext' db' h'.at_
    have fx := (ext_fine (show k < b by omega)).mp hx
    have fy := (ext_fine (show k' < b' by omega)).mp hy
    obtain ⟨y1, y2, f1, f2, e12⟩ := finesL_split hb (show b ≤ b' by omega) fy
    have fj := finesL_join (show k ≤ b by omega) (show b ≤ b' by omega) fx f2
    have pj : loafP g b' k = some (d'.loaf + (x + y2)) := by
      rw [loafP_ext db', (ext_fine (show k < b' by omega)).mpr fj]
      rfl
    have a1 := mk.le b' h'.lt h'.mem _ pj
    have pk : loafP g b k' = some (d.loaf + y1) := by
      by_cases ekb : k' < b
      · rw [loafP_ext db, (ext_fine ekb).mpr f1]
        rfl
      · have ekb : k' = b := by omega
        subst ekb
        have z1 : y1 = 0 := by
          unfold finesL at f1
          rw [Nat.sub_self] at f1
          exact (Option.some.inj f1).symm
        have z2 : keepsL g.days k' k' = 0 := by
          unfold keepsL
          rw [Nat.sub_self]
          rfl
        rw [loafP_ext db, (ext_keep (Nat.le_refl k')).mpr ⟨fun l el => by have := hl l el; omega, z2⟩, z1]
        rfl
    have a2 := mk'.le b h.lt h.mem _ pk
    exact h'.first b hlt h.mem (by rw [pk]; congr 1; omega)
open Classical in
/-- no set of lit days costs less than the row tells -/
theorem row_le_set {g : Good} {lights row : Nat → Int} {M : Nat} (h : IsRow g lights row M) (hM : M ≤ g.days.length) (hl : ∀ b, 0 ≤ lights b) (N : NonNegW g.days) (hlf : ∀ l, g.life = some l → 0 ≤ l) : ∀ n, n ≤ M → ∀ (S : Nat → Prop) (p : Nat → Int) (c : Int), SetC g lights S n p c → row n ≤ c := by
  intro n
  induction n using Nat.strongRecOn with
  | ind n ih =>
    intro hn S p c hc
    have ls0 : ∀ (S : Nat → Prop) m, 0 ≤ litSum lights S m := fun S m => sumN_nonneg m fun k _ => by
      show 0 ≤ (if S k then lights k else 0)
      split
      · exact hl k
      · exact Int.le_refl 0
    by_cases hw : ∃ k, k < n ∧ wantN g k ≠ 0
    · obtain ⟨kl, hkl, wkl, lastk⟩ := exists_last hw
      obtain ⟨bs, hbs⟩ := sm_ex (hc.min kl hkl wkl)
      obtain ⟨f, ⟨hf1, hf2, hf3⟩, hf4⟩ := exists_least (P := fun k => k < n ∧ wantN g k ≠ 0 ∧ Sm g S n p k bs) ⟨kl, hkl, wkl, hbs⟩
      have hfk : f ≤ kl := by
        by_cases e : f ≤ kl
        · exact e
        · exact absurd ⟨hkl, wkl, hbs⟩ (hf4 kl (by omega))
      have hbn := hbs.lt
      have lo : ∀ k, k < f → wantN g k ≠ 0 → ∃ b, Sm g S n p k b ∧ b < f ∧ b < bs := by
        intro k hk wk
        obtain ⟨b, hb⟩ := sm_ex (hc.min k (by omega) wk)
        have h1 := sm_mono N.nn (by omega) hk (hc.min k (by omega) wk) (hc.min f hf1 hf2) hb hf3
        have h2 : b ≠ bs := fun e => hf4 k hk ⟨by omega, wk, e ▸ hb⟩
        refine ⟨b, hb, ?_, by omega⟩
        by_cases e : b < f
        · exact e
        · exact absurd (sm_wait N.nn hlf (by omega) hk (by omega) (hc.min k (by omega) wk) (hc.min f hf1 hf2) hb hf3).symm h2
      have hi : ∀ k, f ≤ k → k < n → wantN g k ≠ 0 → loafP g bs k = some (p k) := by
        intro k hk hkn wk
        have hkkl : k ≤ kl := by
          by_cases e : k ≤ kl
          · exact e
          · exact absurd wk (lastk k (by omega) hkn)
        obtain ⟨b, hb⟩ := sm_ex (hc.min k hkn wk)
        have h1 : bs ≤ b := by
          by_cases e : f = k
          · subst e
            exact Nat.le_of_eq (sm_uniq hf3 hb)
          · exact sm_mono N.nn (by omega) (show f < k by omega) (hc.min f hf1 hf2) (hc.min k hkn wk) hf3 hb
        have h2 : b ≤ bs := by
          by_cases e : k = kl
          · subst e
            exact Nat.le_of_eq (sm_uniq hb hbs)
          · exact sm_mono N.nn (by omega) (show k < kl by omega) (hc.min k hkn wk) (hc.min kl hkl wkl) hb hbs
        have : b = bs := by omega
        subst this
        exact hb.at_
      -- the days ahead of the stretch
      have low : row f ≤ litSum lights (fun b => S b ∧ b < f ∧ b < bs) f + sumN (fun k => wantN g k * p k) f := by
        refine ih f hf1 (by omega) (fun b => S b ∧ b < f ∧ b < bs) p _ ⟨fun k hk wk => ?_, rfl⟩
        obtain ⟨b, hb, h1, h2⟩ := lo k hk wk
        exact ⟨⟨b, h1, ⟨hb.mem, h1, h2⟩, hb.at_⟩, fun b' hb' hs y hy => (hc.min k (by omega) wk).le b' (by omega) hs.1 y hy⟩
      -- the stretch
      have seg : segP (wantP g bs) f (n - f) = some (sumN (fun i => wantN g (f + i) * p (f + i)) (n - f)) := segP_of (q := fun k => wantN g k * p k) (n - f) fun i hi' => wantP_of (by omega) fun wk => hi (f + i) (by omega) (by omega) wk
      have least := h.least (n - 1) (by omega) _ (.inl ⟨bs, f, _, by omega, by omega, by rw [show n - 1 + 1 - f = n - f by omega]; exact seg, rfl⟩)
      rw [show n - 1 + 1 = n by omega] at least
      have spl := sumN_split (fun k => wantN g k * p k) f (n - f)
      rw [show f + (n - f) = n by omega] at spl
      -- the lights
      have lit : litSum lights (fun b => S b ∧ b < f ∧ b < bs) f + lights bs ≤ litSum lights S n := by
        have g1 : litSum lights (fun b => S b ∧ b < f ∧ b < bs) f ≤ litSum lights (fun b => S b ∧ b < f ∧ b < bs) n := sumN_grow (by omega) fun k _ => by
          dsimp only
          split
          · exact hl k
          · exact Int.le_refl 0
        have g2 := sumN_one (L := lights) n hbn
        have g3 : litSum lights (fun b => S b ∧ b < f ∧ b < bs) n + sumN (fun x => if x = bs then lights x else 0) n ≤ litSum lights S n := by
          unfold litSum
          rw [← sumN_add]
          refine sumN_le n fun k hk => ?_
          have lk := hl k
          by_cases e : k = bs
          · subst e
            rw [if_neg (fun z => by omega), if_pos rfl, if_pos hbs.mem]
            omega
          · rw [if_neg e]
            by_cases e2 : S k ∧ k < f ∧ k < bs
            · rw [if_pos e2, if_pos e2.1]
              omega
            · rw [if_neg e2]
              split <;> omega
        omega
      have cc := hc.cost
      omega
    · have z : ∀ k, k < n → wantN g k = 0 := fun k hk => Decidable.not_not.mp fun e => hw ⟨k, hk, e⟩
      have a := row_flat h (f := 0) n (by omega) hn fun k _ hk => wantN_zero (by omega) (z k hk)
      rw [h.zero] at a
      have b := hc.cost
      rw [sumN_zero n fun k hk => by rw [z k hk, Int.zero_mul]] at b
      have := ls0 S n
      omega
open Classical in
theorem exists_min {g : Good} {S : Nat → Prop} {k : Nat} : ∀ n, (∃ b z, b < n ∧ S b ∧ loafP g b k = some z) → ∃ z, MinP g S n k z
  | 0, h => by
    obtain ⟨b, z, hb, _⟩ := h
    omega
  | n + 1, h => by
    by_cases h0 : ∃ b z, b < n ∧ S b ∧ loafP g b k = some z
    · obtain ⟨z, ⟨b, hb, hs, hz⟩, hle⟩ := exists_min n h0
      by_cases hn : S n ∧ ∃ y, loafP g n k = some y ∧ y < z
      · obtain ⟨sn, y, hy, hyz⟩ := hn
        refine ⟨y, ⟨n, by omega, sn, hy⟩, fun b' hb' hs' y' hy' => ?_⟩
        by_cases e : b' = n
        · subst e
          rw [hy] at hy'
          have := Option.some.inj hy'
          omega
        · have := hle b' (by omega) hs' y' hy'
          omega
      · refine ⟨z, ⟨b, by omega, hs, hz⟩, fun b' hb' hs' y' hy' => ?_⟩
        by_cases e : b' = n
        · subst e
          by_cases hh : z ≤ y'
          · exact hh
          · exact absurd ⟨hs', y', hy', by omega⟩ hn
        · exact hle b' (by omega) hs' y' hy'
    · obtain ⟨b, z, hb, hs, hz⟩ := h
      have e : b = n := by
        by_cases e : b = n
        · exact e
        · exact absurd ⟨b, z, by omega, hs, hz⟩ h0
      subst e
      refine ⟨z, ⟨b, by omega, hs, hz⟩, fun b' hb' hs' y' hy' => ?_⟩
      by_cases e : b' = b
      · subst e
        rw [hz] at hy'
        have := Option.some.inj hy'
        omega
      · exact absurd ⟨b', y', by omega, hs', hy'⟩ h0
theorem wantP_inv {g : Good} {b k : Nat} {z : Int} (h : wantP g b k = some z) : (wantN g k = 0 ∧ z = 0) ∨ ∃ y, loafP g b k = some y ∧ z = wantN g k * y := by
  unfold wantP at h
  unfold wantN
  cases hd : g.days[k]? with
  | none => rw [hd] at h; cases h
  | some d =>
    rw [hd] at h
    dsimp only at h ⊢
    split at h
    · exact .inl ⟨by assumption, (Option.some.inj h).symm⟩
    · cases hp : loafP g b k with
      | none => rw [hp] at h; cases h
      | some y =>
        rw [hp] at h
        exact .inr ⟨y, rfl, (Option.some.inj h).symm⟩
theorem segP_sum {w : Nat → Option Int} {f : Nat} : ∀ {n : Nat} {s : Int}, segP w f n = some s → ∃ q : Nat → Int, (∀ i, i < n → w (f + i) = some (q (f + i))) ∧ s = sumN (fun i => q (f + i)) n
  | 0, s, h => ⟨fun _ => 0, fun i hi => by omega, (Option.some.inj h).symm⟩
  | n + 1, s, h => by
    obtain ⟨x, y, h1, h2, h3⟩ := segP_succ h
    obtain ⟨q, q1, q2⟩ := segP_sum h1
    refine ⟨fun k => if k = f + n then y else q k, fun i hi => ?_, ?_⟩
    · dsimp only
      by_cases e : i = n
      · subst e
        rw [if_pos rfl]
        exact h2
      · rw [if_neg (by omega)]
        exact q1 i (by omega)
    · show s = sumN (fun i => if f + i = f + n then y else q (f + i)) n + (if f + n = f + n then y else q (f + n))
      rw [if_pos rfl, sumN_congr (f' := fun i => q (f + i)) n fun i hi => if_neg (by omega), ← q2]
      exact h3
open Classical in
/-- some set of lit days costs no more than the row tells -/
theorem set_of_row {g : Good} {lights row : Nat → Int} {M : Nat} (h : IsRow g lights row M) (hM : M ≤ g.days.length) (hl : ∀ b, 0 ≤ lights b) (N : NonNegW g.days) : ∀ n, n ≤ M → ∃ (S : Nat → Prop) (p : Nat → Int) (c : Int), SetC g lights S n p c ∧ c ≤ row n := by
  intro n
  induction n using Nat.strongRecOn with
  | ind n ih =>
    intro hn
    cases n with
    | zero => exact ⟨fun _ => False, fun _ => 0, 0, ⟨fun k hk => by omega, rfl⟩, by rw [h.zero]; exact Int.le_refl 0⟩
    | succ m =>
      rcases h.some m (by omega) with ⟨b, f, s, hb, hf, hs, hv⟩ | ⟨⟨d, hd, hw⟩, hv⟩
      · obtain ⟨S, p, c, hc, hle⟩ := ih f (by omega) (by omega)
        obtain ⟨q, q1, q2⟩ := segP_sum hs
        let S' : Nat → Prop := fun x => (x < f ∧ S x) ∨ x = b
        have ex : ∀ k, ∃ z, k < m + 1 → wantN g k ≠ 0 → MinP g S' (m + 1) k z := by
          intro k
          by_cases hk : k < m + 1 ∧ wantN g k ≠ 0
          · have : ∃ z, MinP g S' (m + 1) k z := exists_min (m + 1) (by
              by_cases hkf : k < f
              · obtain ⟨b', h1, h2, h3⟩ := (hc.min k hkf hk.2).ex
                exact ⟨b', _, by omega, .inl ⟨h1, h2⟩, h3⟩
              · have e := q1 (k - f) (by omega)
                rw [show f + (k - f) = k by omega] at e
                rcases wantP_inv e with ⟨e1, _⟩ | ⟨y, e1, _⟩
                · exact absurd e1 hk.2
                · exact ⟨b, y, by omega, .inr rfl, e1⟩)
            obtain ⟨z, hz⟩ := this
            exact ⟨z, fun _ _ => hz⟩
          · exact ⟨0, fun h1 h2 => absurd ⟨h1, h2⟩ hk⟩
        let p' : Nat → Int := fun k => choose (ex k)
        have hp' : ∀ k, k < m + 1 → wantN g k ≠ 0 → MinP g S' (m + 1) k (p' k) := fun k => choose_spec (ex k)
        refine ⟨S', p', _, ⟨hp', rfl⟩, ?_⟩
        have spl := sumN_split (fun k => wantN g k * p' k) f (m + 1 - f)
        rw [show f + (m + 1 - f) = m + 1 by omega] at spl
        have w1 : sumN (fun k => wantN g k * p' k) f ≤ sumN (fun k => wantN g k * p k) f := sumN_le f fun k hk => by
          by_cases e : wantN g k = 0
          · rw [e, Int.zero_mul, Int.zero_mul]
            exact Int.le_refl 0
          · obtain ⟨b', h1, h2, h3⟩ := (hc.min k hk e).ex
            exact Int.mul_le_mul_of_nonneg_left ((hp' k (by omega) e).le b' (by omega) (.inl ⟨h1, h2⟩) _ h3) (wantN_nonneg N k)
        have w2 : sumN (fun i => wantN g (f + i) * p' (f + i)) (m + 1 - f) ≤ s := by
          rw [q2]
          refine sumN_le _ fun i hi => ?_
          have e := q1 i hi
          by_cases ew : wantN g (f + i) = 0
          · have := wantP_nonneg N e
            rw [ew, Int.zero_mul]
            exact this
          · rcases wantP_inv e with ⟨e1, _⟩ | ⟨y, e1, e2⟩
            · exact absurd e1 ew
            · rw [e2]
              exact Int.mul_le_mul_of_nonneg_left ((hp' (f + i) (by omega) ew).le b (by omega) (.inr rfl) _ e1) (wantN_nonneg N _)
        have l1 : litSum lights S' (m + 1) ≤ litSum lights S f + lights b := by
          have e1 : litSum lights S f = litSum lights (fun x => x < f ∧ S x) (m + 1) := by
            have e := sumN_split (fun x => if x < f ∧ S x then lights x else 0) f (m + 1 - f)
            rw [show f + (m + 1 - f) = m + 1 by omega, sumN_zero (f := fun i => if f + i < f ∧ S (f + i) then lights (f + i) else 0) _ fun i _ => if_neg fun z => by omega] at e
            unfold litSum
            rw [sumN_congr (f' := fun x => if x < f ∧ S x then lights x else 0) f fun k hk => by
              by_cases e : S k
              · rw [if_pos e, if_pos ⟨hk, e⟩]
              · rw [if_neg e, if_neg fun z => e z.2]]
            have e2 : ∀ A : Int, A + 0 = A := Int.add_zero
            rw [e2] at e
            rw [← e]
            refine sumN_congr _ fun k _ => ?_
            by_cases e : k < f ∧ S k
            · rw [if_pos e, if_pos e]
            · rw [if_neg e, if_neg e]
          have e2 := sumN_one (L := lights) (m + 1) (show b < m + 1 by omega)
          rw [e1, ← e2]
          unfold litSum
          rw [← sumN_add]
          refine sumN_le _ fun k hk => ?_
          have lk := hl k
          dsimp only
          by_cases e3 : k = b
          · rw [if_pos (show S' k from .inr e3), if_pos e3]
            split <;> omega
          · by_cases e4 : k < f ∧ S k
            · rw [if_pos (show S' k from .inl e4), if_pos e4, if_neg e3]
              omega
            · rw [if_neg (show ¬ S' k from fun z => z.elim e4 e3), if_neg e4, if_neg e3]
              omega
        have cc := hc.cost
        omega
      · obtain ⟨S, p, c, hc, hle⟩ := ih m (by omega) (by omega)
        have ew : wantN g m = 0 := by
          unfold wantN
          rw [hd]
          exact hw
        refine ⟨fun x => x < m ∧ S x, p, c, ⟨fun k hk wk => ?_, ?_⟩, by rw [hv]; exact hle⟩
        · have hkm : k < m := by
            by_cases e : k = m
            · subst e; exact absurd ew wk
            · omega
          have mk := hc.min k hkm wk
          obtain ⟨b, h1, h2, h3⟩ := mk.ex
          exact ⟨⟨b, by omega, ⟨h1, h2⟩, h3⟩, fun b' hb' hs y hy => mk.le b' hs.1 hs.2 y hy⟩
        · have e1 : litSum lights (fun x => x < m ∧ S x) (m + 1) = litSum lights S m := by
            have e0 : litSum lights (fun x => x < m ∧ S x) (m + 1) = litSum lights (fun x => x < m ∧ S x) m + 0 := by
              refine congrArg (litSum lights (fun x => x < m ∧ S x) m + ·) ?_
              exact if_neg fun z => absurd z.1 (by omega)
            rw [e0, Int.add_zero]
            refine sumN_congr _ fun k hk => ?_
            dsimp only
            by_cases e : S k
            · rw [if_pos e, if_pos ⟨hk, e⟩]
            · rw [if_neg e, if_neg fun z => e z.2]
          rw [e1, hc.cost]
          show _ = litSum lights S m + (sumN (fun k => wantN g k * p k) m + wantN g m * p m)
          rw [ew, Int.zero_mul, Int.add_zero]
end Bk

namespace Bk
open PySem PySem.Spec PyProof.Rows L2
def rShr : R2 := fun x y H Q => ∃ (i : Int) (k : Nat), x = .int i ∧ y = .int (k : Int) ∧ Q (.int (i / 2 ^ k)) H
def rOdd : R2 := fun x y H Q => ∃ n : Nat, x = .int (n : Int) ∧ y = .int 1 ∧ Q (.int ((n % 2 : Nat) : Int)) H
theorem rShr_i {i j : Int} {H : Hp} {Q : VK} : rShr (.int i) (.int j) H Q = ∃ k : Nat, j = (k : Int) ∧ Q (.int (i / 2 ^ k)) H := propext ⟨fun ⟨_, k, e1, e2, h⟩ => by cases e1; cases e2; exact ⟨k, rfl, h⟩, fun ⟨k, e, h⟩ => ⟨i, k, rfl, by rw [e], h⟩⟩
theorem rOdd_i {i : Int} {H : Hp} {Q : VK} : rOdd (.int i) (.int 1) H Q = ∃ n : Nat, i = (n : Int) ∧ Q (.int ((n % 2 : Nat) : Int)) H := propext ⟨fun ⟨n, e1, e2, h⟩ => by cases e1; exact ⟨n, rfl, h⟩, fun ⟨n, e, h⟩ => ⟨n, by rw [e], rfl, h⟩⟩
def litL (S : Nat → Bool) (n : Nat) : List Nat := (List.range n).filter S
def inS (S : Nat → Bool) (b : Nat) : Prop := S b = true
def bitS (num b : Nat) : Bool := decide (num / 2 ^ b % 2 = 1)
theorem bits_ex : ∀ (n : Nat) (S : Nat → Prop), ∃ num, num < 2 ^ n ∧ ∀ b, b < n → (inS (bitS num) b ↔ S b)
  | 0, S => ⟨0, by decide, fun b hb => by omega⟩
  | n + 1, S => by
    obtain ⟨num, h1, h2⟩ := bits_ex n fun b => S (b + 1)
    have key : ∀ e : Nat, e < 2 → ∀ b, inS (bitS (e + 2 * num)) b ↔ (b = 0 ∧ e = 1) ∨ (0 < b ∧ inS (bitS num) (b - 1)) := by
      intro e he b
      unfold inS bitS
      simp only [decide_eq_true_eq]
      cases b with
      | zero =>
        rw [Nat.pow_zero, Nat.div_one]
        omega
      | succ b =>
        rw [show 2 ^ (b + 1) = 2 * 2 ^ b by rw [Nat.pow_succ, Nat.mul_comm], ← Nat.div_div_eq_div_mul, show (e + 2 * num) / 2 = num by omega, Nat.add_sub_cancel]
        constructor
        · intro h
          exact .inr ⟨Nat.succ_pos _, h⟩
        · rintro (⟨h, _⟩ | ⟨_, h⟩)
          · exact absurd h (Nat.succ_ne_zero _)
          · exact h
    by_cases h0 : S 0
    · refine ⟨1 + 2 * num, by rw [Nat.pow_succ]; omega, fun b hb => ?_⟩
      rw [key 1 (by decide)]
      cases b with
      | zero => exact ⟨fun _ => h0, fun _ => .inl ⟨rfl, rfl⟩⟩
      | succ b =>
        rw [Nat.add_sub_cancel, ← h2 b (by omega)]
        constructor
        · rintro (⟨h, _⟩ | ⟨_, h⟩)
          · exact absurd h (Nat.succ_ne_zero _)
          · exact h
        · intro h
          exact .inr ⟨Nat.succ_pos _, h⟩
    · refine ⟨0 + 2 * num, by rw [Nat.pow_succ]; omega, fun b hb => ?_⟩
      rw [key 0 (by decide)]
      cases b with
      | zero =>
        constructor
        · rintro (⟨_, h⟩ | ⟨h, _⟩)
          · exact absurd h (by decide)
          · exact absurd h (by decide)
        · intro h
          exact absurd h h0
      | succ b =>
        rw [Nat.add_sub_cancel, ← h2 b (by omega)]
        constructor
        · rintro (⟨h, _⟩ | ⟨_, h⟩)
          · exact absurd h (Nat.succ_ne_zero _)
          · exact h
        · intro h
          exact .inr ⟨Nat.succ_pos _, h⟩
theorem setC_congr {g : Good} {lights : Nat → Int} {S S' : Nat → Prop} {n : Nat} {p : Nat → Int} {c : Int} (e : ∀ b, b < n → (S b ↔ S' b)) (h : SetC g lights S n p c) : SetC g lights S' n p c := by
  refine ⟨fun k hk wk => ?_, ?_⟩
  · have m := h.min k hk wk
    obtain ⟨b, h1, h2, h3⟩ := m.ex
    exact ⟨⟨b, h1, (e b h1).mp h2, h3⟩, fun b' hb' hs y hy => m.le b' hb' ((e b' hb').mpr hs) y hy⟩
  · rw [h.cost]
    congr 1
    unfold litSum
    refine sumN_congr n fun b hb => ?_
    by_cases h1 : S b
    · rw [if_pos h1, if_pos ((e b hb).mp h1)]
    · rw [if_neg h1, if_neg fun z => h1 ((e b hb).mpr z)]
/-- what the best of the first so many sets is -/
structure Best (g : Good) (lights : Nat → Int) (n i : Nat) (o : Option Int) : Prop where
  from_ : ∀ c, o = some c → ∃ S p, SetC g lights S n p c
  upto : ∀ num, num < i → num < 2 ^ n → ∀ p c, SetC g lights (inS (bitS num)) n p c → ∃ c0, o = some c0 ∧ c0 ≤ c
theorem Best.done {g : Good} {lights row : Nat → Int} {n i M : Nat} {o : Option Int} (h : Best g lights n i o) (hi : 2 ^ n ≤ i) (hR : IsRow g lights row M) (hn : n ≤ M) (hM : M ≤ g.days.length) (hl : ∀ b, 0 ≤ lights b) (N : NonNegW g.days) (hlf : ∀ l, g.life = some l → 0 ≤ l) : o = some (row n) := by
  obtain ⟨S, p, c, hc, hle⟩ := set_of_row hR hM hl N n hn
  obtain ⟨num, h1, h2⟩ := bits_ex n S
  obtain ⟨c0, rfl, hc0⟩ := h.upto num (by omega) h1 p c (setC_congr (fun b hb => (h2 b hb).symm) hc)
  obtain ⟨S', p', h'⟩ := h.from_ c0 rfl
  have := row_le_set hR hM hl N hlf n hn S' p' c0 h'
  congr 1
  omega
theorem rSetL_r {p : Addr} {k : Int} {v : V} {H : Hp} {Q : Hp → Prop} : rSetL (.ref p) (.int k) v H Q = ∃ xs j, H p = some (.lst xs) ∧ ixN xs.length k = some j ∧ Q (upd H p (.lst (xs.set j v))) := propext ⟨fun ⟨_, xs, _, j, e1, e2, h⟩ => by cases e1; cases e2; exact ⟨xs, j, h⟩, fun ⟨xs, j, h⟩ => ⟨p, xs, k, j, rfl, rfl, h⟩⟩
end Bk

namespace Bk
open PySem PySem.Spec PyProof.Rows L2
/-! ### the row of least costs where wants may be baked on any of all days, and its steps as prices -/
structure IsAny (g : Good) (lights ar : Nat → Int) (c n : Nat) : Prop where
  zero : ar 0 = 0
  unw : ∀ m, m < n → wantN g m = 0 → ar (m + 1) = ar m
  some : ∀ m, m < n → wantN g m ≠ 0 → ChC ar lights (wantP g) c m (ar (m + 1))
  least : ∀ m, m < n → wantN g m ≠ 0 → ∀ v, ChC ar lights (wantP g) c m v → ar (m + 1) ≤ v
theorem wantN_at {g : Good} {k : Nat} {d : Day} (h : g.days[k]? = some d) : wantN g k = d.want := by
  unfold wantN
  rw [h]
theorem wantP_unw {g : Good} {b k : Nat} (hk : k < g.days.length) (h : wantN g k = 0) : wantP g b k = some 0 := by
  have e := wantP_of (g := g) (b := b) (k := k) (z := 0) hk fun z => absurd h z
  rw [e, h, Int.zero_mul]
/-- lit days and prices of loaves by which the first m days' wants cost no more than v -/
structure Cov (g : Good) (lights : Nat → Int) (c m : Nat) (S : Nat → Prop) (p : Nat → Int) (v : Int) : Prop where
  ex : ∀ k, k < m → wantN g k ≠ 0 → ∃ b, b < c ∧ S b ∧ loafP g b k = some (p k)
  le : litSum lights S c + sumN (fun k => wantN g k * p k) m ≤ v
/-! ### prices that are let by -/
/-- by the document's words: whatever day of baking, whatever stretch -/
def Lets (g : Good) (lights pr : Nat → Int) (n : Nat) : Prop := ∀ b f m s, b < n → f + m ≤ n → segP (wantP g b) f m = some s → sumN (fun i => pr (f + i)) m ≤ lights b + s
end Bk

namespace Bk
open PySem PySem.Spec PyProof.Rows L2
/-! ### lists of larger ints, shown -/
/-! ### the row anywhere, number by number -/
theorem ChC.congr {row row' lights : Nat → Int} {w : Nat → Nat → Option Int} {c m : Nat} {v : Int} (e : ∀ f, f ≤ m → row f = row' f) (h : ChC row lights w c m v) : ChC row' lights w c m v := by
  obtain ⟨b, f, s, hb, hf, hs, hv⟩ := h
  exact ⟨b, f, s, hb, hf, hs, by rw [← e f hf]; exact hv⟩
theorem IsAny.init (g : Good) (lights : Nat → Int) (c : Nat) : IsAny g lights (rowF [0]) c 0 := ⟨rfl, fun m h => by omega, fun m h => by omega, fun m h => by omega⟩
theorem IsAny.snoc {g : Good} {lights : Nat → Int} {rs : List Int} {c n : Nat} {v : Int} (h : IsAny g lights (rowF rs) c n) (hl : rs.length = n + 1) (h0 : wantN g n = 0 → v = rowF rs n) (h1 : wantN g n ≠ 0 → ChC (rowF rs) lights (wantP g) c n v ∧ ∀ u, ChC (rowF rs) lights (wantP g) c n u → v ≤ u) :
    IsAny g lights (rowF (rs ++ [v])) c (n + 1) := by
  have e : ∀ f, f ≤ n → rowF rs f = rowF (rs ++ [v]) f := fun f hf => (rowF_snoc (by omega)).symm
  have e' : ∀ f, f ≤ n → rowF (rs ++ [v]) f = rowF rs f := fun f hf => rowF_snoc (by omega)
  have el : rowF (rs ++ [v]) (n + 1) = v := rowF_last hl
  refine ⟨by rw [e' 0 (by omega)]; exact h.zero, fun m hm hw => ?_, fun m hm hw => ?_, fun m hm hw u hu => ?_⟩
  · by_cases hlt : m < n
    · rw [e' (m + 1) (by omega), e' m (by omega)]
      exact h.unw m hlt hw
    · have : m = n := by omega
      subst this
      rw [el, e' m (by omega)]
      exact h0 hw
  · by_cases hlt : m < n
    · rw [e' (m + 1) (by omega)]
      exact (h.some m hlt hw).congr fun f hf => e f (by omega)
    · have : m = n := by omega
      subst this
      rw [el]
      exact (h1 hw).1.congr e
  · by_cases hlt : m < n
    · rw [e' (m + 1) (by omega)]
      exact h.least m hlt hw u (hu.congr fun f hf => e' f (by omega))
    · have : m = n := by omega
      subst this
      rw [el]
      exact (h1 hw).2 u (hu.congr e')
theorem IsAny.ext {g : Good} {lights ar ar' : Nat → Int} {c n : Nat} (h : IsAny g lights ar c n) (h' : IsAny g lights ar' c n) : ∀ m, m ≤ n → ar m = ar' m := by
  intro m
  induction m using Nat.strongRecOn with
  | ind m ih =>
    intro hm
    cases m with
    | zero => rw [h.zero, h'.zero]
    | succ m =>
      by_cases hw : wantN g m = 0
      · rw [h.unw m (by omega) hw, h'.unw m (by omega) hw]
        exact ih m (by omega) (by omega)
      · have e : ∀ f, f ≤ m → ar f = ar' f := fun f hf => ih f (by omega) (by omega)
        have a := h.least m (by omega) hw _ ((h'.some m (by omega) hw).congr fun f hf => (e f hf).symm)
        have b := h'.least m (by omega) hw _ ((h.some m (by omega) hw).congr e)
        omega
/-- the steps of the row anywhere, as told prices -/
structure IsPrices (g : Good) (lights : Nat → Int) (ps : List Int) (n : Nat) : Prop where
  len : ps.length = n
  row : ∃ ar, IsAny g lights ar n n ∧ ∀ k, k < n → rowF ps k = ar (k + 1) - ar k
theorem IsPrices.ext {g : Good} {lights : Nat → Int} {ps ps' : List Int} {n : Nat} (h : IsPrices g lights ps n) (h' : IsPrices g lights ps' n) : ps = ps' := by
  obtain ⟨ar, h1, h2⟩ := h.row
  obtain ⟨ar', h3, h4⟩ := h'.row
  have e := h1.ext h3
  apply List.ext_getElem
  · rw [h.len, h'.len]
  · intro i hi hi'
    have a := h2 i (by rw [← h.len]; exact hi)
    have b := h4 i (by rw [← h.len]; exact hi)
    rw [e (i + 1) (by have := h.len; omega), e i (by have := h.len; omega)] at a
    unfold rowF at a b
    rw [List.getD_eq_getElem?_getD, List.getElem?_eq_getElem hi] at a
    rw [List.getD_eq_getElem?_getD, List.getElem?_eq_getElem hi'] at b
    simp only [Option.getD_some] at a b
    omega
end Bk

namespace Bk
open PySem PySem.Spec PyProof.Rows L2
/-! ### by how much the prices of stretches that end with a day are more than they cost -/
def kad (w : Nat → Option Int) (pr : Nat → Int) : Nat → Int
  | 0 => 0
  | k + 1 => match w k with
    | none => 0
    | some c => if kad w pr k + pr k - c > 0 then kad w pr k + pr k - c else 0
/-- prices of a good's first n days -/
def IsPr (g : Good) (n : Nat) (d : PyData) (ns : List Int) : Prop := d = .list (ns.map PyData.int) ∧ ns.length = n ∧ ∀ k, k < n → wantN g k = 0 → rowF ns k = 0
/-- the days without a want, and whether the prices there are 0 -/
def zeros (g : Good) (ns : List Int) (i : Nat) : List Bool := (List.range i).filterMap fun k => if wantN g k = 0 then some (decide (rowF ns k = 0)) else none
end Bk

namespace Bk
open PySem PySem.Spec PyProof.Rows L2
/-! ### a block cut in two: what holds between the parts -/
section
variable {A1 A2 A3 A4 A5 A6 B : TS} {D : Ends} {σ : L2.St} {H : Hp} (Pm : L2.St → Hp → Prop)
theorem seq1 (hB : ∀ σ' H', Pm σ' H' → B D σ' H') (hA : ∀ N : L2.St → Hp → Prop, (∀ σ' H', Pm σ' H' → N σ' H') → A1 { D with nx := N } σ H) : tSeq A1 B D σ H := hA _ hB
theorem seq2 (hB : ∀ σ' H', Pm σ' H' → B D σ' H') (hA : ∀ N : L2.St → Hp → Prop, (∀ σ' H', Pm σ' H' → N σ' H') → tSeq A1 A2 { D with nx := N } σ H) : tSeq A1 (tSeq A2 B) D σ H := hA _ hB
theorem seq3 (hB : ∀ σ' H', Pm σ' H' → B D σ' H') (hA : ∀ N : L2.St → Hp → Prop, (∀ σ' H', Pm σ' H' → N σ' H') → tSeq A1 (tSeq A2 A3) { D with nx := N } σ H) : tSeq A1 (tSeq A2 (tSeq A3 B)) D σ H := hA _ hB
end
theorem ixN_nat {n j : Nat} (h : j < n) : ixN n (j : Int) = some j := by
  unfold ixN
  rw [if_pos (by omega), if_pos (by omega)]
  rfl
end Bk

namespace Bk
open PySem PySem.Spec PyProof.Rows L2
/-! ### 1 << k -/
def rOne : R2 := fun x y H Q => ∃ k : Nat, x = .int 1 ∧ y = .int (k : Int) ∧ k ≤ 134217727 ∧ Q (.int (2 ^ k)) H
theorem rOne_i {j : Int} {H : Hp} {Q : VK} : rOne (.int 1) (.int j) H Q = ∃ k : Nat, j = (k : Int) ∧ k ≤ 134217727 ∧ Q (.int (2 ^ k)) H := propext ⟨fun ⟨k, _, e2, h⟩ => by cases e2; exact ⟨k, rfl, h⟩, fun ⟨k, e, h⟩ => ⟨k, rfl, by rw [e], h⟩⟩
theorem rIsB_b {a b : Bool} {H : Hp} {Q : VK} : rIsB (.bl a) (.bl b) H Q = Q (.bl (decide (a = b))) H := propext ⟨fun ⟨_, _, e1, e2, h⟩ => by cases e1; cases e2; exact h, fun h => ⟨a, b, rfl, rfl, h⟩⟩
theorem rNotB_b {a b : Bool} {H : Hp} {Q : VK} : rNotB (.bl a) (.bl b) H Q = Q (.bl (!decide (a = b))) H := propext ⟨fun ⟨_, _, e1, e2, h⟩ => by cases e1; cases e2; exact h, fun h => ⟨a, b, rfl, rfl, h⟩⟩
/-! ### dicts whose keys are days -/
def keyN (ns : List Nat) : List Key := ns.map fun n => Sum.inl ((n : Nat) : Int)
def addN (ns : List Nat) (n : Nat) : List Nat := if n ∈ ns then ns else ns ++ [n]
/-- there is a row of least costs -/
theorem exists_min_int {P : Int → Prop} {lo : Int} (hlo : ∀ v, P v → lo ≤ v) (h : ∃ v, P v) : ∃ v, P v ∧ ∀ u, P u → v ≤ u := by
  obtain ⟨v, hv⟩ := h
  obtain ⟨n, hn, hmin⟩ := exists_least (P := fun n : Nat => P (lo + (n : Int))) ⟨(v - lo).toNat, by
    have := hlo v hv
    show P (lo + ((v - lo).toNat : Int))
    rw [show lo + ((v - lo).toNat : Int) = v by omega]
    exact hv⟩
  refine ⟨_, hn, fun u hu => ?_⟩
  have hl := hlo u hu
  by_cases e : lo + (n : Int) ≤ u
  · exact e
  · exfalso
    refine hmin (u - lo).toNat (by omega) ?_
    show P (lo + ((u - lo).toNat : Int))
    rw [show lo + ((u - lo).toNat : Int) = u by omega]
    exact hu
theorem row_exists (g : Good) (lights : Nat → Int) : ∀ (n : Nat), n ≤ g.days.length → (∀ l, g.life = some l → 0 ≤ l) → (∀ b, 0 ≤ lights b) → NonNegW g.days → ∃ row, IsRow g lights row n ∧ ∀ m, m ≤ n → 0 ≤ row m
  | 0, _, _, _, _ => ⟨fun _ => 0, ⟨rfl, fun m h => by omega, fun m h => by omega⟩, fun m _ => Int.le_refl 0⟩
  | n + 1, hn, hl, hp, N => by
    obtain ⟨row, hR, h0⟩ := row_exists g lights n (by omega) hl hp N
    have hd : g.days[n]? = some g.days[n] := List.getElem?_eq_getElem (by omega)
    have ch := own_choice (lights := lights) (row := row) hd hl
    have lo : ∀ v, Choice g lights row n v → 0 ≤ v := by
      rintro v (⟨b, f, s, hb, hf, hs, hv⟩ | ⟨_, hv⟩)
      · have a1 := h0 f hf
        have a2 := hp b
        have a3 := segP_nonneg (fun k z e => wantP_nonneg N e) hs
        omega
      · rw [hv]
        exact h0 n (Nat.le_refl n)
    obtain ⟨v, hv, hmin⟩ := exists_min_int lo ⟨_, ch⟩
    obtain ⟨row', e, el⟩ : ∃ row' : Nat → Int, (∀ f, f ≤ n → row' f = row f) ∧ row' (n + 1) = v := ⟨fun k => if k = n + 1 then v else row k, fun f hf => if_neg (by omega), if_pos rfl⟩
    refine ⟨row', ⟨?_, fun m hm => ?_, fun m hm u hu => ?_⟩, fun m hm => ?_⟩
    · rw [e 0 (by omega)]
      exact hR.zero
    · by_cases hmn : m = n
      · subst hmn
        rw [el]
        exact hv.congr fun f hf => (e f hf).symm
      · rw [e (m + 1) (by omega)]
        exact (hR.some m (by omega)).congr fun f hf => (e f (by omega)).symm
    · by_cases hmn : m = n
      · subst hmn
        rw [el]
        exact hmin u (hu.congr fun f hf => e f hf)
      · rw [e (m + 1) (by omega)]
        exact hR.least m (by omega) u (hu.congr fun f hf => e f (by omega))
    · by_cases hmn : m = n + 1
      · rw [hmn, el]
        exact lo v hv
      · rw [e m (by omega)]
        exact h0 m (by omega)
def rSorD : List V → Hp → VK → Prop := fun xs H Q => ∃ (a : Addr) (kvs : List (Key × V)) (ks : List Int), xs = [.ref a] ∧ Rd H a (.dK kvs) ∧ kvs.map (·.1) = ks.map Sum.inl ∧ ks.length < 64 ∧ ∀ (ys : List Int) (p : Addr), ys.Perm ks → ys.Pairwise (· ≤ ·) → H p = none → Q (.ref p) (upd H p (.lst (ys.map V.int)))
theorem rSorD_r {p : Addr} {H : Hp} {Q : VK} : rSorD [.ref p] H Q = ∃ (kvs : List (Key × V)) (ks : List Int), Rd H p (.dK kvs) ∧ kvs.map (·.1) = ks.map Sum.inl ∧ ks.length < 64 ∧ ∀ (ys : List Int) (q : Addr), ys.Perm ks → ys.Pairwise (· ≤ ·) → H q = none → Q (.ref q) (upd H q (.lst (ys.map V.int))) :=
  propext ⟨fun ⟨_, kvs, ks, e, h⟩ => by cases e; exact ⟨kvs, ks, h⟩, fun ⟨kvs, ks, h⟩ => ⟨p, kvs, ks, rfl, h⟩⟩
end Bk

namespace Bk
open PySem PySem.Spec PyProof.Rows L2
/-! ### a def of the text that may let an exception out -/
structure DefX (P : Program) (w : World) (K : PySem.W.Frag) (mg : Str → Option Value) (base : Heap) (x : Str) (k : Nat) (ps : List Str) (sp : Sp) : Prop where
  ex : ∃ (f : Addr) (fd : FuncData), mg x = some (.ref f) ∧ PySem.W.keepIn K (.ref f) = true ∧ Binds K fd ps [] ∧ FnOk P w K mg base (L2.CX P w) k f fd ps sp
theorem pe_callDX {X : Cx} {x : Str} {k j : Nat} {ps : List Str} {sp : Sp} {W : WX} {e : Expr} {es : List Expr} {t : TA} {p pos : Pos} (D : DefX X.prog X.w X.K X.mg X.base x k ps sp) (tk : Takes X W) (hr : Room j X.A) (hg : Gl X x) (ha : PA X (e :: es) t)
    (hkj : k ≤ j := by omega) (hdb : (x == ("__debug__" : Str)) = false := by decide) (he : starEach (e :: es) X.env = (false, eval e X.env) :: starEach es X.env := by rfl) (hpl : (backTo pos (starEach es X.env)).any (·.1) = false := by rfl) :
    PE X (.Call (.Name x p) (e :: es) [] pos) (tCallS sp (WE W) t) := by
  obtain ⟨f, fd, hm, hk, hb, F⟩ := D.ex
  exact pe_callS F (hr.mono hkj) hg hm hk hb (passAt tk) ha hdb he hpl
/-! ### {x} of a number or None -/
def smV : V → Prop
  | .non => True
  | .int i => i.natAbs < 10 ^ 60
  | _ => False
def tFmtO (te : TE) : TE := fun σ H Q => te σ H fun x H1 => smV x ∧ ∀ y : Str, y.length ≤ 70 → Q (.str y) H1
theorem log60 {n : Nat} (h : n < 10 ^ 60) : n.log2 < 1920 := by
  by_cases h0 : n = 0
  · subst h0
    decide
  · have : n.log2 < 200 := (Nat.log2_lt h0).mpr (Nat.lt_of_lt_of_le h (by decide))
    omega
theorem pe_fmtO {X : Cx} {e : Expr} {te : TE} {pos : Pos} (he : PE X e te) : PE X (.FormattedValue e (-1) none pos) (tFmtO te) := by
  refine ⟨fun pins s σ H Q I h => wpAny_FormattedValue_plain (thn (he.run pins s σ H _ I h) fun v s1 hv => ?_)⟩
  obtain ⟨x, H1, I1, r1, hs, q⟩ := hv
  cases x with
  | non =>
    obtain rfl : v = Value.none := r1
    exact wpAny_formatField_none ⟨.str "None", H1, I1.tok _, ⟨_, rfl⟩, q _ (by decide)⟩
  | int i =>
    have hs : i.natAbs < 10 ^ 60 := hs
    obtain ⟨t, rfl⟩ := (show ∃ t, v = Value.int i t from r1)
    refine wpAny_formatField_int (log60 hs) ⟨.str (toString i), H1, I1.tok _, ⟨_, rfl⟩, q _ ?_⟩
    have z := int_text_length_le10 (k := 60) (by decide) hs
    rw [PySem.ofString_length]
    omega
  | _ => exact hs.elim
/-! ### the __init__ of an error with two fields -/
def spInit2 (K : PySem.W.Frag) (C : Addr) (f1 f2 : Str) : Sp := fun vs H Q _ => ∃ (a : Addr) (u v : V), vs = [.ref a, u, v] ∧ smV u ∧ smV v ∧ H a = some (exo a C none) ∧ ∀ dx, H dx = none → dx ≠ a → Q .non (upd (upd (upd H dx (exd dx [(f1, u)])) a (exo a C (some dx))) dx (exd dx [(f2, v), (f1, u)]))
theorem mk_init2 {K : PySem.W.Frag} {C a : Addr} {f1 f2 : Str} {H1 : Hp} {u v : V} {Q : XK} (hu : smV u) (hv : smV v) (ha : H1 a = none) (q : ∀ d, H1 d = none → Q (.ref C) (some d) (upd H1 d (.xd [(f2, v), (f1, u)]))) :
    spInit2 K C f1 f2 (.ref a :: ([u, v] ++ [])) (upd H1 a (exo a C none)) (fun x H2 => x = .non ∧ ∃ (d : Addr) (fs : List (Str × V)), H2 a = some (exo a C (some d)) ∧ H2 d = some (exd d fs) ∧ H1 d = none ∧ Q (.ref C) (some d) (upd (del H2 a) d (.xd fs))) (fun _ _ _ => False) := by
  refine ⟨a, u, v, rfl, hu, hv, upd_same, fun dx hdx hne => ⟨rfl, dx, _, ?_, upd_same, ?_, ?_⟩⟩
  · rw [upd_ne (Ne.symm hne), upd_same]
  · rw [upd_ne hne] at hdx
    exact hdx
  · have hd : H1 dx = none := by rw [upd_ne hne] at hdx; exact hdx
    have e : upd (del (upd (upd (upd (upd H1 a (exo a C none)) dx (exd dx [(f1, u)])) a (exo a C (some dx))) dx (exd dx [(f2, v), (f1, u)])) a) dx (.xd [(f2, v), (f1, u)]) = upd H1 dx (.xd [(f2, v), (f1, u)]) := by
      funext b
      by_cases hb : b = dx
      · rw [hb, upd_same, upd_same]
      · rw [upd_ne hb, upd_ne hb]
        by_cases hba : b = a
        · rw [hba, del_same, ha]
        · rw [del_ne hba, upd_ne hb, upd_ne hba, upd_ne hb, upd_ne hba]
    rw [e]
    exact q dx hd
end Bk

namespace Bk
open PySem PySem.Spec PyProof.Rows L2
/-! ### what is wrong with what is no bakery: the first thing -/
def fbD : Nat → List PyData → Option Nat
  | _, [] => none
  | i, d :: r => if dayB d = true then fbD (i + 1) r else some i
def badG (n : Nat) (d : PyData) : Option (Option Nat) := if goodFormB n d = true then (match d with
    | .tuple [.list ds, _] => (fbD 0 ds).map some
    | _ => some none) else some none
def wgD (n : Nat) : Nat → List PyData → Option (Nat × Option Nat)
  | _, [] => none
  | i, g :: r => match badG n g with
    | none => wgD n (i + 1) r
    | some o => some (i, o)
def wrongD (d : PyData) : Option (Option Nat × Option Nat) := if bakFormB d = true then (match d with
    | .tuple [.list ls, _, .list gs] => (wgD ls.length 0 gs).map fun p => (some p.1, p.2)
    | _ => some (none, none)) else some (none, none)
theorem fbD_none : ∀ {ds : List PyData} {i : Nat}, fbD i ds = none ↔ ds.all dayB = true
  | [], i => by simp [fbD]
  | d :: r, i => by
    rw [List.all_cons, Bool.and_eq_true]
    unfold fbD
    by_cases h : dayB d = true
    · rw [if_pos h, fbD_none (ds := r) (i := i + 1)]
      exact ⟨fun z => ⟨h, z⟩, fun z => z.2⟩
    · rw [if_neg h]
      exact ⟨fun z => (by cases z), fun z => absurd z.1 h⟩
theorem goodForm_inv {n : Nat} {d : PyData} (h : goodFormB n d = true) : ∃ ds l, d = .tuple [.list ds, l] ∧ ds.length = n ∧ lifeB l = true := by
  unfold goodFormB at h
  split at h
  · rename_i ds l
    rw [Bool.and_eq_true] at h
    cases ds with
    | list ds =>
      have h1 := Bool.and_eq_true_iff.mp h.1
      have a := of_decide_eq_true h1.1
      have b := of_decide_eq_true h1.2
      exact ⟨ds, l, rfl, by omega, h.2⟩
    | _ => cases h.1
  · cases h
theorem badG_none {n : Nat} {d : PyData} : badG n d = none ↔ goodB n d = true := by
  unfold badG
  by_cases h : goodFormB n d = true
  · rw [if_pos h]
    obtain ⟨ds, l, rfl, h1, h2⟩ := goodForm_inv h
    dsimp only
    rw [Option.map_eq_none_iff, fbD_none]
    simp only [goodB, h1, h2, decide_true, Bool.true_and, Bool.and_true]
  · rw [if_neg h]
    refine ⟨fun z => (by cases z), fun z => ?_⟩
    obtain ⟨ds, l, rfl, h1, h2, _⟩ := goodB_inv z
    exact absurd (by simp only [goodFormB, listB, h1, h2, Nat.le_refl, decide_true, Bool.and_self]) h
theorem wgD_none {n : Nat} : ∀ {gs : List PyData} {i : Nat}, wgD n i gs = none ↔ gs.all (goodB n) = true
  | [], i => by simp [wgD]
  | g :: r, i => by
    rw [List.all_cons, Bool.and_eq_true, ← badG_none]
    unfold wgD
    cases h : badG n g with
    | none =>
      dsimp only
      rw [wgD_none (gs := r) (i := i + 1)]
      exact ⟨fun z => ⟨rfl, z⟩, fun z => z.2⟩
    | some o => exact ⟨fun z => (by cases z), fun z => (by cases z.1)⟩
theorem bakForm_inv {d : PyData} (h : bakFormB d = true) : ∃ ls b gs, d = .tuple [.list ls, b, .list gs] ∧ lightsB (.list ls) = true ∧ boundB b = true ∧ listB 1 2 (.list gs) = true := by
  unfold bakFormB at h
  split at h
  · rename_i l b g
    rw [Bool.and_eq_true, Bool.and_eq_true] at h
    cases l with
    | list ls =>
      cases g with
      | list gs => exact ⟨ls, b, gs, rfl, h.1, h.2.1, h.2.2⟩
      | _ => cases h.2.2
    | _ => cases h.1
  · cases h
theorem wrongD_none {d : PyData} : wrongD d = none ↔ bakB d = true := by
  unfold wrongD
  by_cases h : bakFormB d = true
  · rw [if_pos h]
    obtain ⟨ls, b, gs, rfl, h1, h2, h3⟩ := bakForm_inv h
    dsimp only
    rw [Option.map_eq_none_iff, wgD_none]
    simp only [bakB, h1, h2, h3, Bool.true_and]
  · rw [if_neg h]
    refine ⟨fun z => (by cases z), fun z => ?_⟩
    obtain ⟨ls, b, gs, rfl, h1, h2, h3, _⟩ := bakB_inv z
    exact absurd (by simp only [bakFormB, h1, h2, h3, Bool.and_self]) h
/-! ### raising -/
def clsBody : Stmt → List Stmt
  | .ClassDef (body := b) .. => b
  | _ => []
def clsM (st : Stmt) (j : Nat) : Stmt := (clsBody st).getD j (.Pass ⟨0, 0, 0, 0⟩)
/-- an error class with two fields, as the top has written it -/
structure Err2 (P : Program) (w : World) (K : PySem.W.Frag) (mg : Str → Option Value) (base : Heap) (x : Str) (C : Addr) (f1 f2 : Str) : Prop where
  g : mg x = some (.ref C)
  T : OexC K C
  init : ∃ (fI : Addr) (fd : FuncData), PySem.W.findIn K (.ref C) "__init__" = some (some (.ref fI)) ∧ PySem.W.typeIn K (.ref fI) = some (.type "function") ∧ Binds K fd ["self", f1, f2] [] ∧ FnOk P w K mg base CX0 1 fI fd ["self", f1, f2] (spInit2 K C f1 f2)
def rRaise2 (K : PySem.W.Frag) (C : Addr) (f1 f2 : Str) (W : WX) (σ : L2.St) (vs : List V) (H1 : Hp) : Prop := vs.length ≤ 1000 ∧ ∀ a, H1 a = none → spInit2 K C f1 f2 (.ref a :: (vs ++ [])) (upd H1 a (exo a C none))
  (fun v H2 => v = .non ∧ ∃ (d : Addr) (fs : List (Str × V)), H2 a = some (exo a C (some d)) ∧ H2 d = some (exd d fs) ∧ H1 d = none ∧ W (.ref C) (some d) σ (upd (del H2 a) d (.xd fs))) (fun _ _ _ => False)
def tRaise2 (K : PySem.W.Frag) (C : Addr) (f1 f2 : Str) (W : WX) (ta : TA) : TS := fun _ σ H => ta σ H fun vs H1 => rRaise2 K C f1 f2 W σ vs H1
theorem raise2_of {K : PySem.W.Frag} {C : Addr} {f1 f2 : Str} {W : WX} {σ : L2.St} {u v : V} {H1 : Hp} (hu : smV u) (hv : smV v) (hd : ∀ d, H1 d = none → W (.ref C) (some d) σ (upd H1 d (.xd [(f2, v), (f1, u)]))) : rRaise2 K C f1 f2 W σ [u, v] H1 :=
  ⟨by show 2 ≤ 1000; decide, fun a hn => mk_init2 (Q := fun cls d H' => W cls d σ H') hu hv hn hd⟩
theorem ps_raise2 {X : Cx} {x : Str} {C : Addr} {f1 f2 : Str} {W : WX} {ta : TA} {e : Expr} {es : List Expr} {k : Nat} {p pos pos2 : Pos} (R : Err2 X.prog X.w X.K X.mg X.base x C f1 f2) (hc : X.calm = true) (tk : Takes X W) (hr : Room k X.A) (hg : Gl X x) (ha : PA X (e :: es) ta) (hk : 2 ≤ k := by omega)
    (hdb : (x == ("__debug__" : Str)) = false := by decide) (he : starEach (e :: es) X.env = (false, eval e X.env) :: starEach es X.env := by rfl) (hpl : (backTo pos (starEach es X.env)).any (·.1) = false := by rfl) :
    PS X (.Raise (some (.Call (.Name x p) (e :: es) [] pos)) none pos2) (tRaise2 X.K C f1 f2 W ta) := by
  obtain ⟨fI, fd, h1, h2, h3, h4⟩ := R.init
  have M := pmk_oex (pos := pos) (p := p) R.T h1 h2 h4 (hr.mono hk) h3 .nil pass0 hg R.g ha hdb he hpl
  exact ps_raise (pos := pos2) hc tk M
end Bk

namespace Bk
open PySem PySem.Spec PyProof.Rows L2
/-! ### + of any two lists that can be read -/
def rCatL (K : PySem.W.Frag) : R2 := fun x y H Q => ∃ (l b : Addr) (xs zs : List V), x = .ref l ∧ y = .ref b ∧ SqL K H l xs ∧ SqL K H b zs ∧ xs.length + zs.length ≤ sizeLine ∧ ∀ p, H p = none → Q (.ref p) (upd H p (.lst (xs ++ zs)))
theorem op_catL {X : Cx} : OpR X (binaryOp .Add) (rCatL X.K) := by
  intro pins s σ H x y v u Q I rx ry h
  obtain ⟨l, b, xs, zs, rfl, rfl, hl, hb, hz, q⟩ := h
  cases rx
  cases ry
  obtain ⟨i1, r1, p1, z1⟩ := I.list hl
  obtain ⟨i2, r2, p2, z2⟩ := I.list hb
  have e1 := r1.length
  have e2 := r2.length
  obtain ⟨⟨k1, d1, t1, s1⟩, n1, g1, c1, f1, w1⟩ := p1
  obtain ⟨⟨k2, d2, t2, s2⟩, n2, g2, c2, f2, w2⟩ := p2
  simp only at c1 f1 w1 c2 f2 w2
  subst c1 f1 w1 c2 f2 w2
  refine concat_meets ⟨_, g1, rfl⟩ ⟨_, g2, rfl⟩ noFill_list_add seq_list_add PySem.F.slot_list_add PySem.F.entry_list_add (PySem.F.args_list_add_2 _ _) (list_addW l b i1.toArray i2.toArray n1 n2 none none s1 s2 (by rw [List.size_toArray, List.size_toArray]; omega)) ⟨g1, g2, ?_⟩
  rw [show i1.toArray ++ i2.toArray = (i1 ++ i2).toArray by simp]
  exact ⟨.ref _, _, I.lnew (t' := s.toks) (r1.append r2) (by rw [List.length_append]; omega), rfl, q _ I.fresh⟩
theorem rCatL_r {K : PySem.W.Frag} {l b : Addr} {H : Hp} {Q : VK} : rCatL K (.ref l) (.ref b) H Q = ∃ xs zs, SqL K H l xs ∧ SqL K H b zs ∧ xs.length + zs.length ≤ sizeLine ∧ ∀ p, H p = none → Q (.ref p) (upd H p (.lst (xs ++ zs))) := propext ⟨fun ⟨_, _, xs, zs, e1, e2, h⟩ => by cases e1; cases e2; exact ⟨xs, zs, h⟩, fun ⟨xs, zs, h⟩ => ⟨l, b, xs, zs, rfl, rfl, h⟩⟩
theorem rSlT_r {K : PySem.W.Frag} {a : Addr} {lo hi : Option Int} {H : Hp} {Q : VK} : rSlT K (.ref a) lo hi H Q = ∃ xs, SqT K H a xs ∧ ¬ (HT.sIx xs.length 0 lo = 0 ∧ HT.sIx xs.length xs.length hi = xs.length) ∧ ∀ p, H p = none → Q (.ref p) (upd H p (.tup (cutV xs lo hi))) := propext ⟨fun ⟨_, xs, e, h⟩ => by cases e; exact ⟨xs, h⟩, fun ⟨xs, h⟩ => ⟨a, xs, rfl, h⟩⟩
def rListOf (K : PySem.W.Frag) : List V → Hp → VK → Prop := fun xs H Q => ∃ p ys, xs = [.ref p] ∧ (SqL K H p ys ∨ SqT K H p ys) ∧ ∀ l, H l = none → Q (.ref l) (upd H l (.lst ys))
theorem call_listOf {X : Cx} : CallR X (.type "list") (rListOf X.K) := call_list_of
theorem rListOf_r {K : PySem.W.Frag} {p : Addr} {H : Hp} {Q : VK} : rListOf K [.ref p] H Q = ∃ ys, (SqL K H p ys ∨ SqT K H p ys) ∧ ∀ l, H l = none → Q (.ref l) (upd H l (.lst ys)) := propext ⟨fun ⟨_, ys, e, h⟩ => by cases e; exact ⟨ys, h⟩, fun ⟨ys, h⟩ => ⟨p, ys, rfl, h⟩⟩
/-- the class's own clause takes its own errors -/
theorem exm_own {K : PySem.W.Frag} {S : Addr} (h1 : PySem.W.subIn K (.ref S) (.type "BaseException") = some true) (h2 : PySem.W.isClsIn K S = true) (h3 : PySem.W.typeIn K (.ref S) = some (.type "type")) (h4 : PySem.W.subIn K (.ref S) (.ref S) = some true) : PySem.W.exmOne K (.ref S) (.ref S) = some true := by
  unfold PySem.W.isClsIn at h2
  simp only [PySem.W.exmOne, PySem.W.kitCls, h1, h2, h3, h4, beq_self_eq_true, Bool.and_self, if_true]
end Bk

namespace Bk
open PySem PySem.Spec PyProof.Rows L2
/-! ### steady bakeries -/
structure Steady (g : Good) : Prop where
  nofine : ∀ d ∈ g.days, d.fine = none
  never : ∀ k d e, g.days[k]? = some d → g.days[k + 1]? = some e → e.loaf ≤ d.loaf + d.keep
theorem keepsL_head {ds : List Day} {b k : Nat} {d : Day} (hb : ds[b]? = some d) (hk : b < k) : keepsL ds b k = d.keep + keepsL ds (b + 1) k := by
  unfold keepsL
  obtain ⟨hi, e⟩ := List.getElem?_eq_some_iff.mp hb
  rw [List.drop_eq_getElem_cons hi, e, show k - b = (k - (b + 1)) + 1 by omega, List.take_succ_cons, List.map_cons, List.sum_cons]
/-- a loaf baked later, for a day behind both, costs no more -/
theorem loaf_later {g : Good} (S : Steady g) {k : Nat} (hk : k < g.days.length) : ∀ (n b : Nat), b + n ≤ k → ∀ z, loafP g b k = some z → ∃ y, loafP g (b + n) k = some y ∧ y ≤ z
  | 0, b, _, z, h => ⟨z, h, Int.le_refl z⟩
  | n + 1, b, hn, z, h => by
    have hd : g.days[b]? = some g.days[b] := List.getElem?_eq_getElem (by omega)
    have he : g.days[b + 1]? = some g.days[b + 1] := List.getElem?_eq_getElem (by omega)
    have st := S.never b _ _ hd he
    generalize g.days[b] = d at hd st
    generalize g.days[b + 1] = e at he st
    have step : ∃ y, loafP g (b + 1) k = some y ∧ y ≤ z := by
      obtain ⟨x, hx, hxz⟩ := loafP_ext' hd h
      obtain ⟨hl, hkp⟩ := (ext_keep (show b ≤ k by omega)).mp hx
      have e2 : extP g (b + 1) k = some (keepsL g.days (b + 1) k) := (ext_keep (show b + 1 ≤ k by omega)).mpr ⟨fun l hl' => by have := hl l hl'; omega, rfl⟩
      refine ⟨e.loaf + keepsL g.days (b + 1) k, by rw [loafP_ext he, e2]; rfl, ?_⟩
      have := keepsL_head hd (show b < k by omega)
      omega
    obtain ⟨y, hy, hyz⟩ := step
    obtain ⟨y2, hy2, h2⟩ := loaf_later S hk n (b + 1) (by omega) y hy
    exact ⟨y2, by rw [show b + (n + 1) = b + 1 + n by omega]; exact hy2, by omega⟩
theorem want_later {g : Good} (S : Steady g) (N : NonNegW g.days) {b c k : Nat} (hk : k < g.days.length) (hbc : b ≤ c) (hck : c ≤ k) {z : Int} (h : wantP g b k = some z) : ∃ y, wantP g c k = some y ∧ y ≤ z := by
  by_cases hw : wantN g k = 0
  · rw [wantP_unw hk hw] at h ⊢
    exact ⟨_, h, Int.le_refl _⟩
  · rcases wantP_inv h with ⟨e, _⟩ | ⟨y, e1, e2⟩
    · exact absurd e hw
    · obtain ⟨y2, h1, h2⟩ := loaf_later S hk (c - b) b (by omega) y e1
      rw [show b + (c - b) = c by omega] at h1
      refine ⟨wantN g k * y2, wantP_of hk fun _ => h1, ?_⟩
      rw [e2]
      exact Int.mul_le_mul_of_nonneg_left h2 (wantN_nonneg N k)
theorem seg_later {g : Good} (S : Steady g) (N : NonNegW g.days) {b c f : Nat} (hbc : b ≤ c) (hcf : c ≤ f) : ∀ (m : Nat) (s : Int), f + m ≤ g.days.length → segP (wantP g b) f m = some s → ∃ t, segP (wantP g c) f m = some t ∧ t ≤ s
  | 0, s, _, h => by
    rw [segP_zero] at h
    exact ⟨0, segP_zero _ _, by have := Option.some.inj h; omega⟩
  | m + 1, s, hm, h => by
    obtain ⟨x, y, h1, h2, h3⟩ := segP_succ h
    obtain ⟨t, h4, h5⟩ := seg_later S N hbc hcf m x (by omega) h1
    obtain ⟨u, h6, h7⟩ := want_later S N (show f + m < g.days.length by omega) hbc (by omega) h2
    exact ⟨t + u, segP_add h4 h6, by omega⟩
theorem segP_split {w : Nat → Option Int} {f : Nat} : ∀ (n m : Nat) {s : Int}, segP w f (m + n) = some s → ∃ x y, segP w f m = some x ∧ segP w (f + m) n = some y ∧ s = x + y
  | 0, m, s, h => ⟨s, 0, h, segP_zero _ _, by omega⟩
  | n + 1, m, s, h => by
    obtain ⟨x, y, h1, h2, h3⟩ := segP_succ (show segP w f (m + n + 1) = some s from h)
    obtain ⟨u, v, h4, h5, h6⟩ := segP_split n m h1
    exact ⟨u, v + y, h4, segP_add h5 (by rw [show f + m + n = f + (m + n) by omega]; exact h2), by omega⟩
theorem segP_join {w : Nat → Option Int} {f : Nat} : ∀ (n m : Nat) {x y : Int}, segP w f m = some x → segP w (f + m) n = some y → segP w f (m + n) = some (x + y)
  | 0, m, x, y, h1, h2 => by
    rw [segP_zero] at h2
    have := Option.some.inj h2
    rw [Nat.add_zero, h1]
    congr 1
    omega
  | n + 1, m, x, y, h1, h2 => by
    obtain ⟨u, v, h3, h4, h5⟩ := segP_succ h2
    have := segP_add (segP_join n m h1 h3) (show w (f + (m + n)) = some v by rw [show f + (m + n) = f + m + n by omega]; exact h4)
    rw [show m + (n + 1) = m + n + 1 by omega, this]
    congr 1
    omega
/-- any last stretch may as well begin with the day it is baked on -/
theorem diag {g : Good} {lights row : Nat → Int} {n : Nat} (h : IsRow g lights row n) (hn : n ≤ g.days.length) (hl : ∀ b, 0 ≤ lights b) (N : NonNegW g.days) (S : Steady g) {m : Nat} (hm : m < n) : ∀ (f b : Nat) (s : Int), b ≤ m → f ≤ m → segP (wantP g b) f (m + 1 - f) = some s →
    ∃ d t, d ≤ m ∧ segP (wantP g d) d (m + 1 - d) = some t ∧ row d + lights d + t ≤ row f + lights b + s := by
  intro f
  induction f using Nat.strongRecOn with
  | ind f ih =>
    intro b s hb hf hs
    by_cases hbf : b = f
    · subst hbf
      exact ⟨b, s, hb, hs, Int.le_refl _⟩
    · by_cases hlt : f < b
      · -- what would wait is not wanted
        have e : m + 1 - f = (b - f) + (m + 1 - b) := by omega
        rw [e] at hs
        obtain ⟨x, y, h1, h2, h3⟩ := segP_split _ _ hs
        rw [show f + (b - f) = b by omega] at h2
        have fl := row_flat h (f := f) b (by omega) (by omega) fun k hk1 hk2 => by
          obtain ⟨z, hz⟩ := segP_all h1 (k - f) (by omega)
          rw [show f + (k - f) = k by omega] at hz
          exact wantP_late S.nofine hk2 hz
        have nx := segP_nonneg (fun k z e => wantP_nonneg N e) h1
        exact ⟨b, y, hb, h2, by omega⟩
      · have hbf : b < f := by omega
        obtain ⟨f1, rfl⟩ : ∃ f1, f = f1 + 1 := ⟨f - 1, by omega⟩
        rcases h.some f1 (by omega) with ⟨b', f', s', hb', hf', hs', hv⟩ | ⟨⟨d, hd, hw⟩, hv⟩
        · by_cases hbb : b ≤ b'
          · obtain ⟨t, h1, h2⟩ := seg_later S N (f := f1 + 1) hbb (by omega) (m + 1 - (f1 + 1)) s (by omega) hs
            have e : m + 1 - f' = (f1 + 1 - f') + (m + 1 - (f1 + 1)) := by omega
            have j := segP_join (w := wantP g b') (f := f') (m + 1 - (f1 + 1)) (f1 + 1 - f') hs' (by rw [show f' + (f1 + 1 - f') = f1 + 1 by omega]; exact h1)
            rw [← e] at j
            obtain ⟨d, t', h3, h4, h5⟩ := ih f' (by omega) b' _ (by omega) (by omega) j
            have := hl b
            exact ⟨d, t', h3, h4, by omega⟩
          · by_cases hfb : b ≤ f'
            · obtain ⟨t, h1, h2⟩ := seg_later S N (b := b') (c := b) (f := f') (by omega) hfb (f1 + 1 - f') s' (by omega) hs'
              have e : m + 1 - f' = (f1 + 1 - f') + (m + 1 - (f1 + 1)) := by omega
              have j := segP_join (w := wantP g b) (f := f') (m + 1 - (f1 + 1)) (f1 + 1 - f') h1 (by rw [show f' + (f1 + 1 - f') = f1 + 1 by omega]; exact hs)
              rw [← e] at j
              obtain ⟨d, t', h3, h4, h5⟩ := ih f' (by omega) b _ (by omega) (by omega) j
              have := hl b'
              exact ⟨d, t', h3, h4, by omega⟩
            · -- the days from b on are baked on b
              have e1 : f1 + 1 - f' = (b - f') + (f1 + 1 - b) := by omega
              rw [e1] at hs'
              obtain ⟨x, y, h1, h2, h3⟩ := segP_split _ _ hs'
              rw [show f' + (b - f') = b by omega] at h2
              have hrb : row b ≤ row f' + lights b' + x := by
                have := h.least (b - 1) (by omega) (row f' + lights b' + x) (.inl ⟨b', f', x, by omega, by omega, by rw [show b - 1 + 1 - f' = b - f' by omega]; exact h1, rfl⟩)
                rw [show b - 1 + 1 = b by omega] at this
                exact this
              obtain ⟨t, h4, h5⟩ := seg_later S N (b := b') (c := b) (f := b) (by omega) (Nat.le_refl b) (f1 + 1 - b) y (by omega) h2
              have e : m + 1 - b = (f1 + 1 - b) + (m + 1 - (f1 + 1)) := by omega
              have j := segP_join (w := wantP g b) (f := b) (m + 1 - (f1 + 1)) (f1 + 1 - b) h4 (by rw [show b + (f1 + 1 - b) = f1 + 1 by omega]; exact hs)
              rw [← e] at j
              exact ⟨b, _, hb, j, by omega⟩
        · have hw0 : wantN g f1 = 0 := (wantN_at hd).trans hw
          have j := segP_join (w := wantP g b) (f := f1) (m + 1 - (f1 + 1)) 1 (x := 0) (by
            have := segP_add (segP_zero (wantP g b) f1) (show wantP g b (f1 + 0) = some 0 from wantP_unw (by omega) hw0)
            exact this) hs
          rw [show 1 + (m + 1 - (f1 + 1)) = m + 1 - f1 by omega] at j
          obtain ⟨d, t', h3, h4, h5⟩ := ih f1 (by omega) b _ (by omega) (by omega) j
          exact ⟨d, t', h3, h4, by omega⟩
/-! ### the last lit day -/
/-- a cheapest plan for the first j days bakes all from d on, something, on d -/
def EndsAt (g : Good) (lights row : Nat → Int) (j d : Nat) : Prop := d < j ∧ 0 < sumN (fun i => wantN g (d + i)) (j - d) ∧ ∃ s, segP (wantP g d) d (j - d) = some s ∧ row d + lights d + s = row j
def IsLast (g : Good) (lights row : Nat → Int) (j : Nat) : Option Nat → Prop
  | none => ∀ d, ¬ EndsAt g lights row j d
  | some d => EndsAt g lights row j d ∧ ∀ e, d < e → ¬ EndsAt g lights row j e
theorem IsLast.uniq {g : Good} {lights row : Nat → Int} {j : Nat} {o o' : Option Nat} (h : IsLast g lights row j o) (h' : IsLast g lights row j o') : o = o' := by
  cases o with
  | none =>
    cases o' with
    | none => rfl
    | some d => exact absurd h'.1 (h d)
  | some d =>
    cases o' with
    | none => exact absurd h.1 (h' d)
    | some e =>
      congr 1
      by_cases h1 : d < e
      · exact absurd h'.1 (h.2 e h1)
      · by_cases h2 : e < d
        · exact absurd h.1 (h'.2 d h2)
        · omega
theorem wsum_zero {g : Good} {d : Nat} (N : NonNegW g.days) : ∀ m, sumN (fun i => wantN g (d + i)) m = 0 → ∀ i, i < m → wantN g (d + i) = 0
  | 0, _, i, hi => by omega
  | m + 1, h, i, hi => by
    have h : sumN (fun i => wantN g (d + i)) m + wantN g (d + m) = 0 := h
    have a := sumN_nonneg (f := fun i => wantN g (d + i)) m fun k _ => wantN_nonneg N _
    have b := wantN_nonneg N (d + m)
    by_cases e : i = m
    · subst e
      omega
    · exact wsum_zero N m (by omega) i (by omega)
theorem wsum_pos {g : Good} {d m i : Nat} (N : NonNegW g.days) (hi : i < m) (h : 0 < wantN g (d + i)) : 0 < sumN (fun i => wantN g (d + i)) m := by
  have a := sumN_nonneg (f := fun i => wantN g (d + i)) m fun k _ => wantN_nonneg N _
  by_cases e : sumN (fun i => wantN g (d + i)) m = 0
  · have := wsum_zero N m e i hi
    omega
  · omega
section
variable {g : Good} {lights row : Nat → Int} {n : Nat}
/-- of a day without a want nothing changes -/
theorem last_unw (h : IsRow g lights row n) (hn : n ≤ g.days.length) (hl : ∀ b, 0 ≤ lights b) (N : NonNegW g.days) (S : Steady g) {m : Nat} (hm : m < n) (hw : wantN g m = 0) (d : Nat) : EndsAt g lights row (m + 1) d ↔ EndsAt g lights row m d := by
  have er : row (m + 1) = row m := by
    have a := row_up h hl N S.nofine hm
    have b := row_flat h (f := m) (m + 1) (by omega) (by omega) fun k h1 h2 => by
      rw [show k = m by omega]
      exact wantN_zero (by omega) hw
    omega
  constructor
  · rintro ⟨h1, h2, s, h3, h4⟩
    have hdm : d < m := by
      by_cases e : d = m
      · subst e
        rw [show d + 1 - d = 1 by omega] at h2
        have h2 : 0 < 0 + wantN g (d + 0) := h2
        rw [Nat.add_zero, hw] at h2
        omega
      · omega
    rw [show m + 1 - d = (m - d) + 1 by omega] at h2 h3
    obtain ⟨x, y, a1, a2, a3⟩ := segP_succ h3
    rw [show d + (m - d) = m by omega, wantP_unw (by omega) hw] at a2
    have a2 := Option.some.inj a2
    have h2 : 0 < sumN (fun i => wantN g (d + i)) (m - d) + wantN g (d + (m - d)) := h2
    rw [show d + (m - d) = m by omega, hw] at h2
    exact ⟨hdm, by omega, x, a1, by omega⟩
  · rintro ⟨h1, h2, s, h3, h4⟩
    refine ⟨by omega, ?_, s, ?_, by omega⟩
    · rw [show m + 1 - d = (m - d) + 1 by omega]
      show 0 < sumN (fun i => wantN g (d + i)) (m - d) + wantN g (d + (m - d))
      rw [show d + (m - d) = m by omega, hw]
      omega
    · rw [show m + 1 - d = (m - d) + 1 by omega]
      have := segP_add h3 (show wantP g d (d + (m - d)) = some 0 by rw [show d + (m - d) = m by omega]; exact wantP_unw (by omega) hw)
      rw [this, Int.add_zero]
theorem last_wanted (h : IsRow g lights row n) (hn : n ≤ g.days.length) (hl : ∀ b, 0 ≤ lights b) (N : NonNegW g.days) (S : Steady g) {m : Nat} (hm : m < n) (hw : wantN g m ≠ 0) : ∃ d, EndsAt g lights row (m + 1) d := by
  have hp : 0 < wantN g m := by have := wantN_nonneg N m; omega
  rcases h.some m hm with ⟨b, f, s, hb, hf, hs, hv⟩ | ⟨⟨d, hd, hw'⟩, _⟩
  · obtain ⟨d, t, h1, h2, h3⟩ := diag h hn hl N S hm f b s hb hf hs
    have h4 := h.least m hm _ (.inl ⟨d, d, t, h1, h1, h2, rfl⟩)
    refine ⟨d, by omega, wsum_pos N (i := m - d) (by omega) (by rw [show d + (m - d) = m by omega]; exact hp), t, h2, by omega⟩
  · exact absurd ((wantN_at hd).trans hw') hw
/-- it never goes back -/
theorem last_up (h : IsRow g lights row n) (hn : n ≤ g.days.length) (hl : ∀ b, 0 ≤ lights b) (N : NonNegW g.days) (S : Steady g) {m d e : Nat} (hm : m < n) (hw : wantN g m ≠ 0) (hd : EndsAt g lights row m d) (he : IsLast g lights row (m + 1) (some e)) : d ≤ e := by
  by_cases hlt : e < d
  · exfalso
    obtain ⟨d1, d2, s, d3, d4⟩ := hd
    obtain ⟨⟨e1, e2, t, e3, e4⟩, e5⟩ := he
    rw [show m + 1 - e = (m - e) + 1 by omega] at e3
    obtain ⟨x, y, a1, a2, a3⟩ := segP_succ e3
    rw [show e + (m - e) = m by omega] at a2
    obtain ⟨y', b1, b2⟩ := want_later S N (show m < g.days.length by omega) (show e ≤ d by omega) (by omega) a2
    have le : row m ≤ row e + lights e + x := by
      have := h.least (m - 1) (by omega) (row e + lights e + x) (.inl ⟨e, e, x, by omega, by omega, by rw [show m - 1 + 1 - e = m - e by omega]; exact a1, rfl⟩)
      rw [show m - 1 + 1 = m by omega] at this
      exact this
    have sg : segP (wantP g d) d (m + 1 - d) = some (s + y') := by
      rw [show m + 1 - d = (m - d) + 1 by omega]
      exact segP_add d3 (by rw [show d + (m - d) = m by omega]; exact b1)
    have ge := h.least m hm _ (.inl ⟨d, d, _, by omega, by omega, sg, rfl⟩)
    have hp : 0 < wantN g m := by have := wantN_nonneg N m; omega
    exact e5 d hlt ⟨by omega, wsum_pos N (i := m - d) (by omega) (by rw [show d + (m - d) = m by omega]; exact hp), _, sg, by omega⟩
  · omega
end
end Bk

namespace Bk
open PySem PySem.Spec PyProof.Rows L2
def natO (o : Option Nat) : Option Int := o.map fun d => (d : Int)
def natV (o : Option Nat) : V := optV (natO o)
/-- the last lit days of a bakery's first days -/
structure Lasts (g : Good) (ls : List Int) (os : List (Option Nat)) : Prop where
  len : os.length = ls.length + 1
  row : ∃ row, IsRow g (rowF ls) row ls.length ∧ ∀ j o, os[j]? = some o → IsLast g (rowF ls) row j o
theorem EndsAt.congr {g : Good} {lights lights' row row' : Nat → Int} {j d : Nat} (e : ∀ k, k ≤ j → row k = row' k) (el : ∀ k, k < j → lights k = lights' k) (h : EndsAt g lights row j d) : EndsAt g lights' row' j d := by
  obtain ⟨h1, h2, s, h3, h4⟩ := h
  exact ⟨h1, h2, s, h3, by rw [← e d (by omega), ← e j (Nat.le_refl j), ← el d h1]; exact h4⟩
theorem IsLast.of_iff {g g' : Good} {lights lights' row row' : Nat → Int} {j j' : Nat} {o : Option Nat} (e : ∀ d, EndsAt g lights row j d ↔ EndsAt g' lights' row' j' d) (h : IsLast g lights row j o) : IsLast g' lights' row' j' o := by
  cases o with
  | none => exact fun d z => h d ((e d).mpr z)
  | some d => exact ⟨(e d).mp h.1, fun x hx z => h.2 x hx ((e x).mpr z)⟩
theorem Lasts.at_ {g : Good} {ls : List Int} {os : List (Option Nat)} (h : Lasts g ls os) {row : Nat → Int} (hR : IsRow g (rowF ls) row ls.length) {j : Nat} {o : Option Nat} (ho : os[j]? = some o) : IsLast g (rowF ls) row j o := by
  obtain ⟨row', h1, h2⟩ := h.row
  have hj : j < os.length := (List.getElem?_eq_some_iff.mp ho).1
  have hl := h.len
  have e := h1.ext hR
  exact (h2 j o ho).of_iff fun d => ⟨fun z => z.congr (fun k hk => e k (by omega)) fun _ _ => rfl, fun z => z.congr (fun k hk => (e k (by omega)).symm) fun _ _ => rfl⟩
theorem Lasts.uniq {g : Good} {ls : List Int} {os os' : List (Option Nat)} (h : Lasts g ls os) (h' : Lasts g ls os') : os = os' := by
  obtain ⟨row, h1, h2⟩ := h.row
  apply List.ext_getElem?
  intro j
  by_cases hj : j < ls.length + 1
  · have e := List.getElem?_eq_getElem (show j < os.length by rw [h.len]; exact hj)
    have e' := List.getElem?_eq_getElem (show j < os'.length by rw [h'.len]; exact hj)
    rw [e, e', (h2 j _ e).uniq (h'.at_ h1 e')]
  · rw [List.getElem?_eq_none (by rw [h.len]; omega), List.getElem?_eq_none (by rw [h'.len]; omega)]
theorem wantN_take {g : Good} {m k : Nat} (hk : k < m) : wantN ⟨g.days.take m, g.life⟩ k = wantN g k := by
  unfold wantN
  dsimp only
  rw [List.getElem?_take_of_lt hk]
theorem ends_take {g : Good} {lights lights' row : Nat → Int} {m j d : Nat} (hj : j ≤ m) (el : ∀ k, k < m → lights' k = lights k) : EndsAt g lights row j d ↔ EndsAt ⟨g.days.take m, g.life⟩ lights' row j d := by
  have key : d < j → sumN (fun i => wantN ⟨g.days.take m, g.life⟩ (d + i)) (j - d) = sumN (fun i => wantN g (d + i)) (j - d) := fun hd => sumN_congr _ fun i hi => wantN_take (by omega)
  constructor
  · rintro ⟨h1, h2, s, h3, h4⟩
    exact ⟨h1, by rw [key h1]; exact h2, s, by rw [segP_take (by omega) (by omega)]; exact h3, by rw [el d (by omega)]; exact h4⟩
  · rintro ⟨h1, h2, s, h3, h4⟩
    exact ⟨h1, by rw [← key h1]; exact h2, s, by rw [← segP_take (j := m) (by omega) (by omega)]; exact h3, by rw [← el d (by omega)]; exact h4⟩
theorem Lasts.take {g : Good} {ls : List Int} {os : List (Option Nat)} (h : Lasts g ls os) {m : Nat} (hm : m ≤ ls.length) : Lasts ⟨g.days.take m, g.life⟩ (ls.take m) (os.take (m + 1)) := by
  obtain ⟨row, h1, h2⟩ := h.row
  have el : (ls.take m).length = m := by rw [List.length_take]; omega
  refine ⟨by rw [List.length_take, h.len, el]; omega, row, ?_, fun j o ho => ?_⟩
  · rw [el]
    exact row_lights (fun b hb => (rowF_take hb).symm) (h1.take hm)
  · have hj : j < m + 1 := by
      have := (List.getElem?_eq_some_iff.mp ho).1
      rw [List.length_take] at this
      omega
    rw [List.getElem?_take_of_lt hj] at ho
    exact (h2 j o ho).of_iff fun d => ends_take (by omega) fun k hk => rowF_take hk
theorem Steady.take {g : Good} (h : Steady g) (m : Nat) : Steady ⟨g.days.take m, g.life⟩ := by
  refine ⟨fun d hd => h.nofine d (List.mem_of_mem_take hd), fun k d e hd he => ?_⟩
  have hk : k + 1 < m := by
    have := (List.getElem?_eq_some_iff.mp he).1
    rw [List.length_take] at this
    omega
  have hd : (g.days.take m)[k]? = some d := hd
  have he : (g.days.take m)[k + 1]? = some e := he
  rw [List.getElem?_take_of_lt (by omega)] at hd
  rw [List.getElem?_take_of_lt hk] at he
  exact h.never k d e hd he
/-! ### lists of days or None, compared -/
end Bk

namespace Bk
open PySem PySem.Spec PyProof.Rows L2
/-! ### list != []: whatever the list holds -/
def rNeN (K : PySem.W.Frag) : R2 := fun x y H Q => ∃ (l b : Addr) (xs : List V), x = .ref l ∧ y = .ref b ∧ SqL K H l xs ∧ SqL K H b [] ∧ Q (.bl (!decide (xs.length = 0))) H
theorem rNeN_r {K : PySem.W.Frag} {l b : Addr} {H : Hp} {Q : VK} : rNeN K (.ref l) (.ref b) H Q = ∃ xs, SqL K H l xs ∧ SqL K H b [] ∧ Q (.bl (!decide (xs.length = 0))) H := propext ⟨fun ⟨_, _, xs, e1, e2, h⟩ => by cases e1; cases e2; exact ⟨xs, h⟩, fun ⟨xs, h⟩ => ⟨l, b, xs, rfl, rfl, h⟩⟩
end Bk

namespace Bk
open PySem PySem.Spec PyProof.Rows L2
/-! ### i not in range(lo, hi) -/
def rNinr : R2 := fun x y H Q => ∃ (i : Int) (p : Addr) (m n : Int), x = .int i ∧ y = .ref p ∧ H p = some (.rng m n) ∧ Q (.bl (!decide (m ≤ i ∧ i < n))) H
theorem rNinr_r {i : Int} {a : Addr} {H : Hp} {Q : VK} : rNinr (.int i) (.ref a) H Q = ∃ lo hi, H a = some (.rng lo hi) ∧ Q (.bl (!decide (lo ≤ i ∧ i < hi))) H := propext ⟨fun ⟨_, _, lo, hi, e1, e2, h⟩ => by cases e1; cases e2; exact ⟨lo, hi, h⟩, fun ⟨lo, hi, h⟩ => ⟨i, a, lo, hi, rfl, rfl, h⟩⟩
end Bk

namespace Bk
open PySem PySem.Spec PyProof.Rows L2
/-! ### what is a bakery by the looks has its shape -/
theorem numD_int {d : PyData} (h : numD d = true) : ∃ i, d = .int i := by
  cases d with
  | int i => exact ⟨i, rfl⟩
  | _ => cases h
theorem day_of {d : PyData} (h : dayB d = true) : ∃ x, d = dayD x := by
  cases d with
  | tuple ds =>
    match ds, h with
    | [d1, d2, d3, d4], h =>
      simp only [dayB, Bool.and_eq_true, Bool.or_eq_true] at h
      obtain ⟨⟨⟨h1, h2⟩, h3⟩, h4⟩ := h
      obtain ⟨i1, rfl⟩ := numD_int h1
      obtain ⟨i2, rfl⟩ := numD_int h2
      obtain ⟨i3, rfl⟩ := numD_int h3
      rcases h4 with h4 | h4
      · cases d4 with
        | none => exact ⟨⟨i1, i2, i3, none⟩, rfl⟩
        | _ => cases h4
      · obtain ⟨i4, rfl⟩ := numD_int h4
        exact ⟨⟨i1, i2, i3, some i4⟩, rfl⟩
  | _ => cases h
/-! ### t[::-1] of a tuple -/
def backV {α : Type} (xs : List α) : List α := ((List.range xs.length).map fun (k : Nat) => ((xs.length : Int) - 1 + (k : Int) * -1).toNat).filterMap (xs[·]?)
section
variable {prog : Program} {w : World} {A : Around} {E : Value → Shared → Prop} {s : Shared}
end
def tBackT (K : PySem.W.Frag) (te : TE) (tl th ts : TO) : TE := fun σ H Q => te σ H fun x H1 => tl σ H1 fun l H2 => th σ H2 fun u H3 => ts σ H3 fun st H4 => ∃ a xs, x = .ref a ∧ SqT K H4 a xs ∧ l = none ∧ u = none ∧ st = some (-1) ∧
  ∀ p, H4 p = none → Q (.ref p) (upd H4 p (.tup (backV xs)))
/-! ### expressions that tell some data, whatever they are -/
def Grow (R : Hp → V → Prop) : Prop := ∀ H H' y, Same H H' → R H y → R H' y
def Ye (R : Hp → V → Prop) (te : TE) (σ : L2.St) (H : Hp) : Prop := ∀ H1, Same H H1 → ∀ Q : VK, (∀ H2 y, Same H1 H2 → R H2 y → Q y H2) → te σ H1 Q
def Ya (R : Hp → List V → Prop) (ta : TA) (σ : L2.St) (H : Hp) : Prop := ∀ H1, Same H H1 → ∀ Q : List V → Hp → Prop, (∀ H2 ys, Same H1 H2 → R H2 ys → Q ys H2) → ta σ H1 Q
def Yo (to : TO) (σ : L2.St) (H : Hp) : Prop := ∀ H1, Same H H1 → ∀ Q : Option Int → Hp → Prop, (∀ H2 o, Same H1 H2 → Q o H2) → to σ H1 Q
def Yt (tt : TT) (σ : L2.St) (H : Hp) : Prop := ∀ H1, Same H H1 → ∀ Q : Bool → Hp → Prop, (∀ H2 b, Same H1 H2 → Q b H2) → tt σ H1 Q
def AnyD (K : PySem.W.Frag) : Hp → V → Prop := fun H y => ∃ d, Th K H y d
def TupD (K : PySem.W.Frag) (n : Nat) : Hp → V → Prop := fun H y => ∃ ds, ds.length ≤ n ∧ Th K H y (.tuple ds)
def LstD (K : PySem.W.Frag) (n : Nat) : Hp → V → Prop := fun H y => ∃ ds, ds.length ≤ n ∧ Th K H y (.list ds)
def LstE (K : PySem.W.Frag) (n : Nat) : Hp → V → Prop := fun H y => ∃ ds, ds.length = n ∧ Th K H y (.list ds)
def AllD (K : PySem.W.Frag) (n : Nat) : Hp → List V → Prop := fun H ys => ∃ ds, ds.length = n ∧ ThAll K H ys ds
def IntD (P : Int → Prop) : Hp → V → Prop := fun _ y => ∃ i, y = .int i ∧ P i
section
variable {K : PySem.W.Frag} {σ : L2.St} {H : Hp} {te ta tb : TE} {R R' : Hp → V → Prop}
theorem Ye.at (h : Ye R te σ H) {H1 : Hp} (S : Same H H1) {Q : VK} (q : ∀ H2 y, Same H1 H2 → R H2 y → Q y H2) : te σ H1 Q := h H1 S Q q
theorem Ye.same (h : Ye R te σ H) {H1 : Hp} (S : Same H H1) : Ye R te σ H1 := fun H2 S2 => h H2 (S.trans S2)
theorem Ye.weak (h : Ye R te σ H) (w : ∀ H y, R H y → R' H y) : Ye R' te σ H := fun H1 S Q q => h H1 S Q fun H2 y S2 r => q H2 y S2 (w _ _ r)
theorem Ye.tup {n : Nat} (h : Ye (TupD K n) te σ H) : Ye (AnyD K) te σ H := h.weak fun _ _ ⟨ds, _, t⟩ => ⟨_, t⟩
theorem Ye.lst {n : Nat} (h : Ye (LstD K n) te σ H) : Ye (AnyD K) te σ H := h.weak fun _ _ ⟨ds, _, t⟩ => ⟨_, t⟩
theorem Ye.exact {n : Nat} (h : Ye (LstE K n) te σ H) : Ye (LstD K n) te σ H := h.weak fun _ _ ⟨ds, e, t⟩ => ⟨_, Nat.le_of_eq e, t⟩
theorem Ye.int {P : Int → Prop} (h : Ye (IntD P) te σ H) : Ye (AnyD K) te σ H := h.weak fun _ _ ⟨i, e, _⟩ => ⟨.int i, by rw [e]; exact .int i⟩
theorem ye_var {i : Nat} {v : V} (hm : Grow R) (e : σ[i]? = some (some v)) (h : R H v) : Ye R (tVar i) σ H := fun H1 S Q q => ⟨v, e, q H1 v (Same.refl _) (hm _ _ _ S h)⟩
theorem ye_vI {i : Nat} {z : Int} {P : Int → Prop} (e : σ[i]? = some (some (.int z))) (h : P z) : Ye (IntD P) (tVar i) σ H := fun H1 S Q q => ⟨_, e, q H1 _ (Same.refl _) ⟨z, rfl, h⟩⟩
theorem ye_i {z : Int} {P : Int → Prop} (h : P z) : Ye (IntD P) (tC (.int z)) σ H := fun H1 _ Q q => q H1 _ (Same.refl _) ⟨z, rfl, h⟩
theorem ye_neg {P P' : Int → Prop} (h : Ye (IntD P) te σ H) (hp : ∀ i, P i → P' (-i)) : Ye (IntD P') (tUn (rU fun i => .int (-i)) te) σ H := fun H1 S Q q => h H1 S _ fun H2 y S2 ⟨i, e, p⟩ => ⟨i, e, q H2 _ S2 ⟨_, rfl, hp i p⟩⟩
theorem ye_I0 {f : Int → Int → Int} {P P1 P2 : Int → Prop} (ha : Ye (IntD P1) ta σ H) (hb : Ye (IntD P2) tb σ H) (hp : ∀ i j, P1 i → P2 j → P (f i j)) : Ye (IntD P) (tOp (rI0 fun i j => .int (f i j)) ta tb) σ H :=
  fun H1 S Q q => ha H1 S _ fun H2 y S2 ⟨i, e, p1⟩ => hb H2 (S.trans S2) _ fun H3 z S3 ⟨j, e2, p2⟩ => ⟨i, j, e, e2, q H3 _ (S2.trans S3) ⟨_, rfl, hp i j p1 p2⟩⟩
theorem ye_I {C : Int → Int → Prop} {f : Int → Int → Int} {P P1 P2 : Int → Prop} (ha : Ye (IntD P1) ta σ H) (hb : Ye (IntD P2) tb σ H) (hp : ∀ i j, P1 i → P2 j → C i j ∧ P (f i j)) : Ye (IntD P) (tOp (rI C fun i j => .int (f i j)) ta tb) σ H :=
  fun H1 S Q q => ha H1 S _ fun H2 y S2 ⟨i, e, p1⟩ => hb H2 (S.trans S2) _ fun H3 z S3 ⟨j, e2, p2⟩ => ⟨i, j, e, e2, (hp i j p1 p2).1, q H3 _ (S2.trans S3) ⟨_, rfl, (hp i j p1 p2).2⟩⟩
theorem ye_dig {k : Nat} {pd : Addr} {fs : List Int} {i : Nat} {f : Int} (e : σ[k]? = some (some (.ref pd))) (h : SqL K H pd (fs.map V.int)) (hf : fs[i]? = some f) : Ye (IntD fun z => z = f) (tOp (rIxL K) (tVar k) (tC (.int (i : Int)))) σ H :=
  fun H1 S Q q => ⟨_, e, ⟨pd, fs.map V.int, (i : Int), .int f, rfl, rfl, S.seq h, atI_nat (by rw [List.getElem?_map, hf]; rfl), q H1 _ (Same.refl _) ⟨f, rfl, rfl⟩⟩⟩
def rTupOf (K : PySem.W.Frag) : List V → Hp → VK → Prop := fun xs H Q => ∃ p ys, xs = [.ref p] ∧ ((SqL K H p ys ∧ ∀ l, H l = none → Q (.ref l) (upd H l (.tup ys))) ∨ (SqT K H p ys ∧ Q (.ref p) H))
def LstT (K : PySem.W.Frag) (n : Nat) : Hp → V → Prop := fun H y => ∃ a xs ds, y = .ref a ∧ H a = some (.lst xs) ∧ ThAll K H xs ds ∧ ds.length ≤ n
theorem len_rep {α : Type} (xs : List α) : ∀ k : Nat, (List.replicate k xs).flatten.length = xs.length * k
  | 0 => rfl
  | k + 1 => by
    rw [List.replicate_succ, List.flatten_cons, List.length_append, len_rep xs k, Nat.mul_succ, Nat.add_comm]
/-! ### rows of a block, one by one -/
section
variable {A B C : TS} {D : Ends} {tt : TT}
theorem s_asg {i : Nat} (h : Ye R te σ H) (k : ∀ H2 y, Same H H2 → R H2 y → B D (σ.set i (some y)) H2) : tSeq (tAsg te (gName i)) B D σ H := h H (Same.refl _) _ fun H2 y S r => k H2 y S r
theorem s_ret (h : Ye R te σ H) (k : ∀ H2 y, Same H H2 → R H2 y → D.rt y H2) : tRet te D σ H := h H (Same.refl _) _ fun H2 y S r => k H2 y S r
end
end
end Bk

namespace Bk
open PySem PySem.Spec PyProof.Rows L2
/-! ### max(xs, default=d) of a list of ints -/
section
variable {prog : Program} {w : World} {A : Around} {E : Value → Shared → Prop} {s : Shared}
variable {R : Result → Shared → Prop} {J : Addr} {fp wr : List Addr} {n : Nat} {P : Nat → Value → Prop} {St : Nat → Heap → Prop} {kw : List (Str × Value)}
end
def rMaxD (K : PySem.W.Frag) : List V → List V → Hp → VK → Prop := fun vs zs H Q => ∃ (a : Addr) (ns : List Int) (d : Int), vs = [V.ref a] ∧ zs = [V.int d] ∧ SqL K H a (ns.map V.int) ∧ (ns = [] → Q (.int d) H) ∧ ∀ m, m ∈ ns → (∀ y, y ∈ ns → y ≤ m) → Q (.int m) H
theorem rMaxD_r {K : PySem.W.Frag} {a : Addr} {d : Int} {H : Hp} {Q : VK} : rMaxD K [.ref a] [.int d] H Q = ∃ ns : List Int, SqL K H a (ns.map V.int) ∧ (ns = [] → Q (.int d) H) ∧ ∀ m, m ∈ ns → (∀ y, y ∈ ns → y ≤ m) → Q (.int m) H :=
  propext ⟨fun ⟨_, ns, _, e1, e2, h⟩ => by cases e1; cases e2; exact ⟨ns, h⟩, fun ⟨ns, h⟩ => ⟨a, ns, d, rfl, rfl, h⟩⟩
theorem rSortedI_r {K : PySem.W.Frag} {a : Addr} {H : Hp} {Q : VK} : rSortedI K [.ref a] H Q = ∃ ns : List Int, SqL K H a (ns.map V.int) ∧ ∀ (ns' : List Int) (p : Addr), ns'.Perm ns → ns'.Pairwise (· ≤ ·) → H p = none → Q (.ref p) (upd H p (.lst (ns'.map V.int))) :=
  propext ⟨fun ⟨_, ns, e, h⟩ => by cases e; exact ⟨ns, h⟩, fun ⟨ns, h⟩ => ⟨a, ns, rfl, h⟩⟩
end Bk

namespace Bk
open PySem PySem.Spec PyProof.Rows L2
/-! ### chains of last lit days -/
def Down (os : List (Option Nat)) : Prop := ∀ (j d : Nat), os[j]? = some (some d) → d < j
def chainN (os : List (Option Nat)) : Nat → Nat → List Nat
  | 0, j => [j]
  | f + 1, j => j :: (match os[j]? with | some (some d) => chainN os f d | _ => [])
def chain (os : List (Option Nat)) (j : Nat) : List Nat := chainN os j j
section
variable {os : List (Option Nat)}
/-- in the chains of all numbers from the last lit day on -/
def SharedM (os : List (Option Nat)) (n m : Nat) : Prop := ∃ l, os[n]? = some (some l) ∧ ∀ k, l ≤ k → k < n → m ∈ chain os k
structure IsMany (os : List (Option Nat)) (n m : Nat) : Prop where
  most : ∀ m', SharedM os n m' → m' ≤ m
  at_ : m = 0 ∨ SharedM os n m
theorem IsMany.uniq {n m m' : Nat} (h : IsMany os n m) (h' : IsMany os n m') : m = m' := by
  rcases h.at_ with e | e <;> rcases h'.at_ with e' | e'
  · omega
  · have := h.most m' e'
    omega
  · have := h'.most m e
    omega
  · have := h.most m' e'
    have := h'.most m e
    omega
def litOf (os : List (Option Nat)) (m : Nat) : List Nat := (chain os m).tail.reverse
end
def natI (n : Nat) : V := .int (n : Int)
end Bk

namespace Bk
open PySem PySem.Spec PyProof.Rows L2
/-! ### dict(pairs), walks over a dict that is locked -/
def rDictP (K : PySem.W.Frag) : List V → Hp → VK → Prop := fun xs H Q => ∃ (a : Addr) (ps : List Addr) (kvs : List (Key × V)), xs = [.ref a] ∧ SqL K H a (ps.map V.ref) ∧ Paired (fun p kv => SqT K H p [kV kv.1, kv.2]) ps kvs ∧ ∀ p, H p = none → Q (.ref p) (upd H p (.dK (mergeK [] kvs)))
/-- a dict whose keys are just these days -/
structure DictN (H : Hp) (p : Addr) (ns : List Nat) : Prop where
  ex : ∃ kvs : List (Key × V), H p = some (.dK kvs) ∧ kvs.map (·.1) = keyN ns
theorem DictN.same {H H' : Hp} {p : Addr} {ns : List Nat} (h : DictN H p ns) (s : Same H H') : DictN H' p ns := by
  obtain ⟨kvs, e, k⟩ := h.ex
  exact ⟨kvs, s _ _ e, k⟩
end Bk

namespace Bk
open PySem PySem.Spec PyProof.Rows L2
/-! ### d == {}, and dicts of days with whole numbers -/
def rEqDE : R2 := fun x y H Q => ∃ a b ks, x = .ref a ∧ y = .ref b ∧ H a = some (.dK ks) ∧ H b = some (.dK []) ∧ Q (.bl (decide (ks.length = 0))) H
def mkE (es : List (Nat × Int)) : List (Key × V) := es.map fun e => (Sum.inl ((e.1 : Nat) : Int), V.int e.2)
def putE (es : List (Nat × Int)) (d : Nat) (v : Int) : List (Nat × Int) := if (es.any fun e => decide (e.1 = d)) = true then es.map (fun e => if e.1 = d then (d, v) else e) else es ++ [(d, v)]
def lookE (es : List (Nat × Int)) (d : Nat) : Option Int := (es.find? fun e => decide (e.1 = d)).map (·.2)
end Bk

namespace Bk
open PySem PySem.Spec PyProof.Rows L2
/-! ### set(xs) of a list of ints -/
abbrev emp0 (w : World) : Obj := { cls := .type "set", dict := none, data := .set #[] 0 (.fresh 0 0 (!w.params.followText "set-order")) }
section
variable {P : Program} {w : World} {A : Around} {E : Value → Shared → Prop} {s : Shared}
set_option maxHeartbeats 3200000 in
theorem set_ofList {l : Addr} {its : Array Value} (zs : List Int) {Q : Value → Shared → Prop} (ah : A.handled = none) (il : s.heap.IsList l its) (ia : IntsAre its.toList zs) (few : zs.length + 1 < scanBound)
    (go : ∀ (h' : Heap) (tk c : Nat), SetR w h' s.heap.objs.size (fun j => decide (j ∈ zs)) c → c ≤ zs.length → (∀ b o, s.heap.get? b = some o → h'.get? b = some o) → Q (.ref s.heap.objs.size) { s with heap := h', toks := tk }) : wpAny (model P w) A (call (.type "set") [.ref l]) Q E s := by
  have isz : its.size = zs.length := by have z := IntsAre.length ia; rw [Array.length_toList] at z; exact z
  obtain ⟨c, tl, m1⟩ := F.called_set.mro
  have m2 := F.called_set.made
  have m3 := F.called_set.sub
  refine wpAny_call (codeAny_of_tree ?_); show wpAny _ _ (callAny (.type "set") _) _ _ _
  refine wpAny_pure ⟨Code.quiet_builtin _ (by decide +kernel), codeAny_builtin F.entry_type_call ?_⟩; rw [Around.under_plain (weight_type_call_type "set" [.ref l] []) rfl]
  have m4 := F.called_set.notType
  have m5 := F.called_set.canCreate
  have m6 := F.typeCall_set_1 (.ref l)
  repeat (any_goals (first | assumption | wp_step))
  refine codeAny_mono (code_set_led1 (.ref l) (E := E) (Q₁ := fun u t => u = .ref s.heap.objs.size ∧ t = { s with heap := s.heap.push (emp0 w) }) ⟨rfl, rfl⟩) fun r t hr => ?_
  cases r with
  | error e => exact hr
  | ok fl =>
    cases fl with
    | ret u =>
      obtain ⟨rfl, rfl⟩ := hr
      have eS : (s.heap.push (emp0 w)).get? s.heap.objs.size = some (emp0 w) := Heap.get?_push_size _ rfl
      have eT : Shared.TypeIs { s with heap := s.heap.push (emp0 w) } (.ref s.heap.objs.size) "set" := ⟨_, eS, rfl⟩
      have m7 := F.called_set.init.lookup
      have m8 := F.called_set.init.bind (.ref s.heap.objs.size)
      repeat (any_goals (first | assumption | wp_step))
      refine codeAny_mono (codeAny_call_builtin (R := wants (fun r t2 => r = .none ∧ ∃ h' tk c, t2 = { s with heap := h', toks := tk } ∧ SetR w h' s.heap.objs.size (fun j => decide (j ∈ zs)) c ∧ c ≤ zs.length ∧ (∀ b o, s.heap.get? b = some o → h'.get? b = some o)) E) F.called_set.init.plain F.entry_set_init (check_set_init_1 eT ?_)) fun r2 t2 hr2 => ?_
      · obtain ⟨ob, eb, ec, nl, ed⟩ := il
        obtain ⟨b1, b2, b3, b4⟩ := ob
        simp only at ec ed
        subst ec
        subst ed
        have eb' : (s.heap.push (emp0 w)).get? l = some { cls := .type "list", dict := b2, data := .seq its nl, slots := b4 } := Heap.get?_push_of_some _ eb
        have m9 := F.sub_list_set
        have ma := F.sub_list_frozenset
        have mb : (Value.type "list" == Value.type "dict") = false := by decide
        have il1 : (s.heap.push (emp0 w)).IsList l its := ⟨_, eb', rfl, nl, rfl⟩
        unfold Builtin.«set.__init__» noKeywords Builtin.Frozenset.updateFrom
        generalize hI : pyIter = PI
        wp_walk
        subst hI
        refine wpAny_pyIter_list il1 ?_
        refine wpAny_bind (wpAny_runValue ?_)
        have ll : l < s.heap.objs.size := Heap.lt_size eb
        have ah3 : A.in1.in1.in1.handled = none := by simp [ah]
        have nI : l ≠ (s.heap.push (emp0 w)).objs.size := by rw [Heap.size_push]; exact Nat.ne_of_lt (Nat.lt_succ_of_lt ll)
        have nS : s.heap.objs.size ∉ [(s.heap.push (emp0 w)).objs.size, l] := by
          rw [Heap.size_push]; simp only [List.mem_cons, List.mem_singleton, List.not_mem_nil, or_false, not_or]; exact ⟨Nat.ne_of_lt (Nat.lt_succ_self _), Nat.ne_of_gt ll⟩
        have at_ : ∀ (i : Nat) (v : Value), its[i]? = some v → ∃ k t, zs[i]? = some k ∧ v = .int k t := fun i v hv => by
          have hi : i < zs.length := by rw [← isz]; exact (Array.getElem?_eq_some_iff.mp hv).1
          obtain ⟨t, e⟩ := PyProof.Rows.IntsAre.int_at ia i v (by rw [Array.getElem?_toList]; exact hv)
          refine ⟨zs[i], t, List.getElem?_eq_getElem hi, ?_⟩; rw [e, List.getD_eq_getElem?_getD, List.getElem?_eq_getElem hi] <;> rfl
        refine set_update_ints ((Walks.list ah3 _ l nI its).toS) s.heap.objs.size nS zs isz few at_ (its.size - 0) 0 _ (by omega) (Nat.zero_le _) ⟨⟨_, Heap.get?_push_size _ rfl, rfl, rfl⟩, (il1.push _)⟩ ?z0 ?z1
        case z0 => exact ⟨0, Nat.le_refl 0, setR_new_at (Heap.get?_push_of_some _ eS)⟩
        case z1 =>
          intro t3 c3 mv lc hS'
          obtain ⟨h', g2, d', tk', os'⟩ := t3
          have z1 : g2 = s.gens := mv.gens
          have z2 : d' = s.drawn := mv.drawn
          have z3 : os' = s.os := mv.os
          subst z1
          subst z2
          subst z3
          show wpAny _ _ _ _ _ _; refine wpAny_pure ?_
          show wpAny _ _ (ret Value.none) _ _ _; rw [isz] at lc
          refine wpAny_pure ⟨rfl, h', tk', c3, rfl, hS', lc, fun b o e => ?_⟩
          have y0 : b < s.heap.objs.size := Heap.lt_size e
          have y2 : b ≠ (s.heap.push (emp0 w)).objs.size := by rw [Heap.size_push]; exact Nat.ne_of_lt (Nat.lt_succ_of_lt y0)
          exact mv.heap b o (by simp only [List.mem_cons, List.mem_singleton, List.not_mem_nil, or_false, not_or]; exact ⟨Nat.ne_of_lt y0, y2⟩) (Heap.get?_push_of_some _ (Heap.get?_push_of_some _ e))
      · cases r2 with
        | error e => exact hr2
        | ok fl2 =>
          cases fl2 with
          | ret r =>
            obtain ⟨rfl, h', tk, c', rfl, hS', lc, hk'⟩ := hr2
            repeat (any_goals (first | assumption | wp_step))
            exact go _ _ _ hS' lc hk'
          | _ => exact hr2.elim
    | _ => exact hr.elim
end
def rSetOf (K : PySem.W.Frag) (w : World) : List V → Hp → VK → Prop := fun xs H Q => ∃ (l : Addr) (ns : List Int), xs = [.ref l] ∧ SqL K H l (ns.map V.int) ∧ ns.length < 60 ∧ ∀ p c, H p = none → c ≤ ns.length → Q (.ref p) (upd H p (SetO w p (fun j => decide (j ∈ ns)) c))
theorem rSetOf_r {K : PySem.W.Frag} {w : World} {l : Addr} {H : Hp} {Q : VK} : rSetOf K w [.ref l] H Q = ∃ ns : List Int, SqL K H l (ns.map V.int) ∧ ns.length < 60 ∧ ∀ p c, H p = none → c ≤ ns.length → Q (.ref p) (upd H p (SetO w p (fun j => decide (j ∈ ns)) c)) := propext ⟨fun ⟨_, ns, e, h⟩ => by cases e; exact ⟨ns, h⟩, fun ⟨ns, h⟩ => ⟨l, ns, rfl, h⟩⟩
theorem rSortedSet_r {w : World} {a : Addr} {H : Hp} {Q : VK} : rSortedSet w [.ref a] H Q = ∃ (S : Int → Bool) (n : Nat), H a = some (SetO w a S n) ∧ n < 64 ∧ ∀ (ns : List Int) (p : Addr), ns.Pairwise (· < ·) → (∀ k : Int, k ∈ ns ↔ S k = true) → ns.length = n → H p = none → Q (.ref p) (upd H p (.lst (ns.map V.int))) := propext ⟨fun ⟨_, S, n, e, h⟩ => by cases e; exact ⟨S, n, h⟩, fun ⟨S, n, h⟩ => ⟨a, S, n, rfl, h⟩⟩
end Bk

namespace Bk
open PySem PySem.Spec PyProof.Rows L2
/-! ### where a last stretch begins -/
def fbo (row : Nat → Int) (w : Nat → Option Int) (T : Int) : Nat → Int → Option Nat
  | 0, _ => none
  | m + 1, cost => match w m with
    | none => none
    | some p => if row m + (cost + p) = T then some m else fbo row w T m (cost + p)
/-- rows of a plan: day of baking, day given -/
structure PlanOk (g : Good) (lights : Nat → Int) (n m : Nat) (es : List (Nat × Nat)) : Prop where
  days : (es.map Prod.snd).Perm ((List.range n).filter fun k => decide (m ≤ k ∧ wantN g k ≠ 0))
  price : ∀ e ∈ es, e.1 < n ∧ ∃ p, loafP g e.1 e.2 = some p
/-- what the loaves of a plan cost -/
def loavesE (g : Good) (es : List (Nat × Nat)) : Int := (es.map fun e => wantN g e.2 * (loafP g e.1 e.2).getD 0).sum
structure CheapI (g : Good) (lights row : Nat → Int) (n m : Nat) (es : List (Nat × Nat)) : Prop extends PlanOk g lights n m es where
  cost : litSum lights (fun d => ∃ e ∈ es, e.1 = d) n + loavesE g es + row m ≤ row n
/-- the rows of a stretch -/
def strE (g : Good) (b f m : Nat) : List (Nat × Nat) := (((List.range (m - f)).map fun i => f + i).filter fun k => decide (wantN g k ≠ 0)).map fun k => (b, k)
theorem rExtend_r {l b : Addr} {H : Hp} {Q : VK} : rExtend (.ref l) [.ref b] H Q = ∃ xs zs, H l = some (.lst xs) ∧ H b = some (.lst zs) ∧ xs.length + zs.length ≤ sizeLine ∧ Q .non (upd H l (.lst (xs ++ zs))) := propext ⟨fun ⟨_, _, xs, zs, e1, e2, h⟩ => by cases e1; cases e2; exact ⟨xs, zs, h⟩, fun ⟨xs, zs, h⟩ => ⟨l, b, xs, zs, rfl, rfl, h⟩⟩
theorem rSortU_r {K : PySem.W.Frag} {d : Nat} {B : Int} {a : Addr} {H : Hp} {Q : VK} : rSortU K d B [.ref a] H Q = ∃ xs : List V, SqL K H a xs ∧ xs.length < 64 ∧ (∀ x ∈ xs, ∃ ns, TupI K H x ns ∧ ns.length = d ∧ TS.Bd B ns) ∧ ∀ (ys : List V) (p : Addr), ys.Perm xs → ys.Pairwise (fun x y => ∀ n m, TupI K H x n → TupI K H y m → TS.code B n ≤ TS.code B m) → H p = none → Q (.ref p) (upd H p (.lst ys)) := propext ⟨fun ⟨_, xs, e, h⟩ => by cases e; exact ⟨xs, h⟩, fun ⟨xs, h⟩ => ⟨a, xs, rfl, h⟩⟩
end Bk

namespace Bk
open PySem PySem.Spec PyProof.Rows L2
/-! ### sorted(..) of tuples of whole numbers, of any number: a dict's keys, a list's items -/
def encT (b : Addr × List Int) : PyData := .tuple (b.2.map PyData.int)
def rSorDT : List V → Hp → VK → Prop := fun xs H Q => ∃ (a : Addr) (kvs : List (List Key × V)) (ks : List (List Int)), xs = [.ref a] ∧ H a = some (.dT kvs) ∧ kvs.map (·.1) = ks.map (fun k => k.map Sum.inl) ∧ (∀ k ∈ ks, k ≠ []) ∧
  ∀ (L : List (Addr × List Int)) (p : Addr), (L.map (·.2)).Perm ks → L.Pairwise (fun p q => p.2 ≤ q.2) → (∀ q ∈ L, H q.1 = some (.tup (q.2.map V.int))) → H p = none → Q (.ref p) (upd H p (.lst (L.map fun q => V.ref q.1)))
end Bk

namespace Bk
open PySem PySem.Spec PyProof.Rows L2
/-! ### {a for a, b, c, d in xs}: the first parts of a list's tuples, whole numbers, as a set -/
theorem ns_at2 {h h' : Heap} {C : Addr} {m : Str → Option Value} (n : h.Ns C m) (k : ∀ o, h.get? C = some o → h'.get? C = some o) : h'.Ns C m := by
  obtain ⟨o, es, ep, ho, r⟩ := n
  exact ⟨o, es, ep, k o ho, r⟩
section
variable {X : Cx}
/-- what stands while the block runs -/
structure Runs2 (X : Cx) (s1 : Shared) (D C : Addr) (zs : List (Addr × Int)) (i : Nat) (t : Shared) : Prop where
  only : ∃ h tk, t = { s1 with heap := h, toks := tk }
  old : ∀ b o, s1.heap.get? b = some o → t.heap.get? b = some o
  set : ∃ ds : List Int, ds.Nodup ∧ (∀ d ∈ ds, d ∈ (zs.take i).map (·.2)) ∧ SetR X.w t.heap D (fun j => decide (j ∈ (zs.take i).map (·.2))) ds.length
  names : ∃ m, t.heap.Ns C m
theorem Runs2.other {s1 t : Shared} {D C It : Addr} {zs : List (Addr × Int)} {i : Nat} (g : Runs2 X s1 D C zs i t) (hI : s1.heap.objs.size ≤ It) (hD : D ≠ It) (hC : C ≠ It) {h' : Heap} {tk : Nat} (k : ∀ b o, b ≠ It → t.heap.get? b = some o → h'.get? b = some o) : Runs2 X s1 D C zs i { t with heap := h', toks := tk } := by
  obtain ⟨h, tk0, e⟩ := g.only
  obtain ⟨n, hn1, hn, hs⟩ := g.set
  obtain ⟨m, hm⟩ := g.names
  subst e
  refine ⟨⟨h', tk, rfl⟩, fun b o q => k b o (fun z => ?_) (g.old b o q), ⟨n, hn1, hn, hs.at fun o q => k D o hD q⟩, ⟨m, ns_at2 hm fun o q => k C o hC q⟩⟩
  exact Nat.lt_irrefl _ (Nat.lt_of_lt_of_le (z ▸ Heap.lt_size q) hI)
def tScT2 (K : PySem.W.Frag) (w : World) (at2 : Bool) (te : TE) : TE := fun σ H Q => te σ H fun x H1 => ∃ (p : Addr) (zs : List (Addr × Int)) (N : Nat), x = .ref p ∧ SqL K H1 p (zs.map fun z => V.ref z.1) ∧ (∀ z ∈ zs, ∃ a b c d, SqT K H1 z.1 [a, b, c, d] ∧ (if at2 = true then b else a) = .int z.2) ∧ (∀ z ∈ zs, 0 ≤ z.2 ∧ z.2 < N) ∧ N < 60 ∧ ∀ D n, H1 D = none → n ≤ N → Q (.ref D) (upd H1 D (SetO w D (fun j => decide (j ∈ zs.map (·.2))) n))
end
end Bk

namespace Bk
open PySem PySem.Spec PyProof.Rows L2
/-! ### a def that asks repr, called where no text of a container is being written -/
structure DefG (P : Program) (w : World) (K : PySem.W.Frag) (mg : Str → Option Value) (base : Heap) (x : Str) (k : Nat) (ps : List Str) (sp : Sp) : Prop where
  ex : ∃ (f : Addr) (fd : FuncData), mg x = some (.ref f) ∧ PySem.W.keepIn K (.ref f) = true ∧ Binds K fd ps [] ∧ RunG P w K mg base k f fd ps sp
theorem pe_callDG {X : Cx} {x : Str} {k j : Nat} {ps : List Str} {sp : Sp} {e : Expr} {es : List Expr} {t : TA} {p pos : Pos} (D : DefG X.prog X.w X.K X.mg X.base x k ps sp) (hG : X.A.guards = some []) (hr : Room j X.A) (hg : Gl X x) (ha : PA X (e :: es) t)
    (hkj : k ≤ j := by omega) (hdb : (x == ("__debug__" : Str)) = false := by decide) (he : starEach (e :: es) X.env = (false, eval e X.env) :: starEach es X.env := by rfl) (hpl : (backTo pos (starEach es X.env)).any (·.1) = false := by rfl) :
    PE X (.Call (.Name x p) (e :: es) [] pos) (tCall sp [] E0 t) := by
  obtain ⟨f, fd, hm, hk, hb, F⟩ := D.ex
  constructor
  intro pins s σ H Q I h
  apply wpAny_Call_Name_kw
  refine ld_glob I hg hm ?_ hdb
  refine PySem.W.callWith_K (h₀ := X.base) I.ok.mod.kin hk ?_ he hpl
  refine thn (ha.run pos pins s σ H _ I h) ?_
  rintro us s1 ⟨vs, H1, I1, r, q⟩
  refine ⟨I1.kIn, ?_⟩
  have q' : sp vs H1 Q E0 := by simpa using q
  have hl : us.length = ps.length := by rw [← r.length]; exact F.1 _ _ _ _ q'
  have B := hb s1 us I1.kIn (by simpa using hl)
  rw [List.append_nil] at B
  apply wpAny_call
  refine codeAny_mono (F.2 X.A X.stack s1 H1 ⟨us, []⟩ us vs Q E0 hG (hr.mono hkj) I1.env0 B r q') ?_
  intro z s' hq
  match z, hq with
  | .ok (.ret u), hq => exact I1.after hq
  | .error e, hq => exact pass0 pins σ H1 s1 e s' I1 hq
end Bk

namespace Bk
open PySem PySem.Spec PyProof.Rows L2
/-! ### rows of four whole numbers, and lists of them -/
abbrev K3 := Nat × Nat × Nat
structure Row4 where
  a : Nat
  b : Nat
  c : Nat
  m : Int
def Row4.k (r : Row4) : K3 := (r.a, r.b, r.c)
def rowD (r : Row4) : PyData := .tuple [.int (r.a : Int), .int (r.b : Int), .int (r.c : Int), .int r.m]
def planD (L : List Row4) : PyData := .list (L.map rowD)
theorem Th.row {K : PySem.W.Frag} {H : Hp} {x : V} {r : Row4} (h : Th K H x (rowD r)) : ∃ t, x = .ref t ∧ SqT K H t [.int (r.a : Int), .int (r.b : Int), .int (r.c : Int), .int r.m] := by
  cases h with
  | tup ht hta =>
  cases hta with
  | cons t1 hta => cases hta with
  | cons t2 hta => cases hta with
  | cons t3 hta => cases hta with
  | cons t4 hta =>
  cases hta
  cases t1; cases t2; cases t3; cases t4
  exact ⟨_, rfl, ht⟩
theorem rows_of {K : PySem.W.Frag} {H : Hp} : ∀ {xs : List V} {L : List Row4}, ThAll K H xs (L.map rowD) → ∃ zs : List (Addr × Row4), xs = zs.map (fun z => V.ref z.1) ∧ zs.map (·.2) = L ∧ ∀ z ∈ zs, SqT K H z.1 [.int (z.2.a : Int), .int (z.2.b : Int), .int (z.2.c : Int), .int z.2.m]
  | xs, [], h => by
    have h : ThAll K H xs [] := h
    cases h
    exact ⟨[], rfl, rfl, fun z hz => by cases hz⟩
  | xs, r :: L, h => by
    have h : ThAll K H xs (rowD r :: L.map rowD) := h
    cases h with
    | cons h1 h2 =>
      obtain ⟨zs, e1, e2, e3⟩ := rows_of h2
      obtain ⟨t, rfl, ht⟩ := h1.row
      refine ⟨(t, r) :: zs, by rw [e1]; rfl, by rw [List.map_cons, e2], fun z hz => ?_⟩
      rcases List.mem_cons.mp hz with rfl | hz
      · exact ht
      · exact e3 z hz
theorem Th.plan {K : PySem.W.Frag} {H : Hp} {x : V} {L : List Row4} (h : Th K H x (planD L)) : ∃ (p : Addr) (zs : List (Addr × Row4)), x = .ref p ∧ SqL K H p (zs.map fun z => V.ref z.1) ∧ zs.map (·.2) = L ∧ ∀ z ∈ zs, SqT K H z.1 [.int (z.2.a : Int), .int (z.2.b : Int), .int (z.2.c : Int), .int z.2.m] := by
  cases h with
  | lst hl ht =>
    obtain ⟨zs, e1, e2, e3⟩ := rows_of ht
    subst e1
    exact ⟨_, zs, rfl, hl, e2, e3⟩
def SmallR (L : List Row4) : Prop := L.length ≤ 500 ∧ ∀ r ∈ L, r.a < 1000 ∧ r.b < 1000 ∧ r.c < 1000 ∧ r.m.natAbs < 10 ^ 12
/-! ### dicts whose keys are three numbers -/
def key3 (k : K3) : List Key := [Sum.inl (k.1 : Int), Sum.inl (k.2.1 : Int), Sum.inl (k.2.2 : Int)]
def keyI3 (k : K3) : List Int := [(k.1 : Int), (k.2.1 : Int), (k.2.2 : Int)]
abbrev E3 := List (K3 × Int)
def mk3 (es : E3) : List (List Key × V) := es.map fun e => (key3 e.1, V.int e.2)
def look3 (es : E3) (k : K3) : Option Int := (es.find? fun e => decide (e.1 = k)).map (·.2)
def put3 (es : E3) (k : K3) (v : Int) : E3 := if (es.any fun e => decide (e.1 = k)) = true then es.map (fun e => if e.1 = k then (e.1, v) else e) else es ++ [(k, v)]
def add3 (es : E3) (k : K3) (m : Int) : E3 := put3 es k ((look3 es k).getD 0 + m)
/-- what all entries come to -/
def sum3 (f : K3 → Int) (es : E3) : Int := (es.map fun e => e.2 * f e.1).sum
theorem sum3_cons (f : K3 → Int) (e : K3 × Int) (es : E3) : sum3 f (e :: es) = e.2 * f e.1 + sum3 f es := by
  unfold sum3
  rw [List.map_cons, List.sum_cons]
theorem any3 {es : E3} {k : K3} : (es.any fun e => decide (e.1 = k)) = true ↔ k ∈ es.map (·.1) := by
  rw [List.any_eq_true, List.mem_map]
  constructor
  · rintro ⟨e, h1, h2⟩
    exact ⟨e, h1, of_decide_eq_true h2⟩
  · rintro ⟨e, h1, h2⟩
    exact ⟨e, h1, decide_eq_true h2⟩
theorem add3_keys (es : E3) (k : K3) (m : Int) : (add3 es k m).map (·.1) = if k ∈ es.map (·.1) then es.map (·.1) else es.map (·.1) ++ [k] := by
  unfold add3 put3
  by_cases h : k ∈ es.map (·.1)
  · rw [if_pos (any3.mpr h), if_pos h, List.map_map]
    congr 1
    funext x
    show (if x.1 = k then (x.1, _) else x).1 = x.1
    split <;> rfl
  · rw [if_neg fun z => h (any3.mp z), if_neg h, List.map_append]
    rfl
theorem add3_nodup {es : E3} {k : K3} {m : Int} (h : (es.map (·.1)).Nodup) : ((add3 es k m).map (·.1)).Nodup := by
  rw [add3_keys]
  split
  · exact h
  · rename_i hn
    rw [List.nodup_append]
    refine ⟨h, by simp, fun a ha b hb e => ?_⟩
    rw [List.mem_singleton.mp hb] at e
    rw [e] at ha
    exact hn ha
theorem add3_key {es : E3} {k j : K3} {m : Int} : j ∈ (add3 es k m).map (·.1) ↔ j ∈ es.map (·.1) ∨ j = k := by
  rw [add3_keys]
  split
  · rename_i h
    exact ⟨.inl, fun z => z.elim id fun e => by rw [e]; exact h⟩
  · rw [List.mem_append, List.mem_singleton]
theorem add3_len (es : E3) (k : K3) (m : Int) : (add3 es k m).length ≤ es.length + 1 := by
  have := congrArg List.length (add3_keys es k m)
  rw [List.length_map] at this
  rw [this]
  split
  · rw [List.length_map]; omega
  · rw [List.length_append, List.length_map, List.length_singleton]
    omega
theorem map_put {es : E3} {k : K3} {v : Int} {f : K3 → Int} (h : k ∉ es.map (·.1)) : (es.map fun e => if e.1 = k then (e.1, v) else e) = es := by
  induction es with
  | nil => rfl
  | cons e r ih =>
    rw [List.map_cons, List.mem_cons, not_or] at h
    rw [List.map_cons, if_neg (fun z => h.1 z.symm), ih h.2]
theorem add3_sum {es : E3} {k : K3} {m : Int} (f : K3 → Int) (h : (es.map (·.1)).Nodup) : sum3 f (add3 es k m) = sum3 f es + m * f k := by
  unfold add3 put3
  by_cases hk : k ∈ es.map (·.1)
  · rw [if_pos (any3.mpr hk)]
    induction es with
    | nil => cases hk
    | cons e r ih =>
      rw [List.map_cons, List.nodup_cons] at h
      by_cases he : e.1 = k
      · have hl : look3 (e :: r) k = some e.2 := by
          unfold look3
          rw [List.find?_cons_of_pos (p := fun e : K3 × Int => decide (e.1 = k)) (decide_eq_true he)]
          rfl
        rw [hl, List.map_cons, if_pos he, sum3_cons, sum3_cons, map_put (f := f) (by rw [← he]; exact h.1), he]
        simp only [Option.getD_some]
        rw [Int.add_mul]
        omega
      · have hl : look3 (e :: r) k = look3 r k := by
          unfold look3
          rw [List.find?_cons_of_neg (p := fun e : K3 × Int => decide (e.1 = k)) (fun z => he (of_decide_eq_true z))]
        have hk2 : k ∈ r.map (·.1) := by
          rcases List.mem_cons.mp hk with z | z
          · exact absurd z.symm he
          · exact z
        rw [hl, List.map_cons, if_neg he, sum3_cons, sum3_cons, ih h.2 hk2]
        omega
  · rw [if_neg fun z => hk (any3.mp z)]
    have hl : look3 es k = none := by
      unfold look3
      rw [Option.map_eq_none_iff, List.find?_eq_none]
      intro e he z
      exact hk (List.mem_map.mpr ⟨e, he, of_decide_eq_true z⟩)
    rw [hl]
    unfold sum3
    rw [List.map_append, List.sum_append]
    simp
theorem look3_val {es : E3} {k : K3} {v : Int} (h : look3 es k = some v) : (k, v) ∈ es := by
  unfold look3 at h
  obtain ⟨e, he, ev⟩ := Option.map_eq_some_iff.mp h
  have h0 := List.find?_some he
  have h1 : e.1 = k := of_decide_eq_true h0
  rw [← h1, ← ev]
  exact List.mem_of_find?_eq_some he
theorem add3_mem {es : E3} {k j : K3} {m v : Int} (h : (j, v) ∈ add3 es k m) : (j, v) ∈ es ∨ (j = k ∧ v = (look3 es k).getD 0 + m) := by
  unfold add3 put3 at h
  split at h
  · obtain ⟨e, he, z⟩ := List.mem_map.mp h
    split at z
    · rename_i hk
      cases z
      exact .inr ⟨hk, rfl⟩
    · rw [z] at he
      exact .inl he
  · rcases List.mem_append.mp h with h | h
    · exact .inl h
    · cases List.mem_singleton.mp h
      exact .inr ⟨rfl, rfl⟩
/-- the entries' values, all from 0 to c -/
def Vals3 (es : E3) (c : Int) : Prop := ∀ e ∈ es, 0 ≤ e.2 ∧ e.2 ≤ c
theorem Vals3.add {es : E3} {k : K3} {m c d : Int} (h : Vals3 es c) (h0 : 0 ≤ m) (h1 : m ≤ d) (hd : 0 ≤ c) : Vals3 (add3 es k m) (c + d) := by
  rintro ⟨j, v⟩ hv
  show 0 ≤ v ∧ v ≤ c + d
  rcases add3_mem hv with hv | ⟨_, rfl⟩
  · have : 0 ≤ v ∧ v ≤ c := h _ hv
    omega
  · cases hl : look3 es k with
    | none => show 0 ≤ 0 + m ∧ 0 + m ≤ c + d; omega
    | some u =>
      have : 0 ≤ u ∧ u ≤ c := h _ (look3_val hl)
      show 0 ≤ u + m ∧ u + m ≤ c + d
      omega
/-- rows of entries -/
def rowE (e : K3 × Int) : Row4 := ⟨e.1.1, e.1.2.1, e.1.2.2, e.2⟩
def sumR (f : K3 → Int) (L : List Row4) : Int := (L.map fun r => r.m * f r.k).sum
theorem sum_permI {l m : List Int} (h : l.Perm m) : l.sum = m.sum := by
  induction h with
  | nil => rfl
  | cons x _ ih => rw [List.sum_cons, List.sum_cons, ih]
  | swap x y l => rw [List.sum_cons, List.sum_cons, List.sum_cons, List.sum_cons]; omega
  | trans _ _ h1 h2 => exact h1.trans h2
theorem sum3_perm {f : K3 → Int} {es fs : E3} (h : es.Perm fs) : sum3 f es = sum3 f fs := sum_permI (h.map _)
/-- lights of the days that a part of the rows names -/
noncomputable def litR (L : Nat → Int) (n : Nat) (ds : List Nat) : Int := litSum L (fun d => d ∈ ds) n
theorem rSorDT_r {a : Addr} {H : Hp} {Q : VK} : rSorDT [.ref a] H Q = ∃ (kvs : List (List Key × V)) (ks : List (List Int)), H a = some (.dT kvs) ∧ kvs.map (·.1) = ks.map (fun k => k.map Sum.inl) ∧ (∀ k ∈ ks, k ≠ []) ∧
  ∀ (L : List (Addr × List Int)) (p : Addr), (L.map (·.2)).Perm ks → L.Pairwise (fun p q => p.2 ≤ q.2) → (∀ q ∈ L, H q.1 = some (.tup (q.2.map V.int))) → H p = none → Q (.ref p) (upd H p (.lst (L.map fun q => V.ref q.1))) := propext ⟨fun ⟨_, kvs, ks, e, h⟩ => by cases e; exact ⟨kvs, ks, h⟩, fun ⟨kvs, ks, h⟩ => ⟨a, kvs, ks, rfl, h⟩⟩
/-- the price of a row's loaf -/
def priceB (b : Bak) (k : K3) : Int := match b.goods[k.2.1]? with
  | some g => (loafP g k.1 k.2.2).getD 0
  | none => 0
structure FitR (b : Bak) (n : Nat) (r : Row4) : Prop where
  a : r.a < n
  c : r.c < n
  m : 0 ≤ r.m ∧ r.m ≤ 1000000000000
  p : ∃ g, b.goods[r.b]? = some g ∧ ∃ p, loafP g r.a r.c = some p
noncomputable def costB (b : Bak) (L : List Row4) : Int := litR (rowF b.lights) b.lights.length (L.map Row4.a) + sumR (priceB b) L
end Bk

namespace Bk
open PySem PySem.Spec PyProof.Rows L2
/-! ### set(xs) of up to sixty whole numbers -/
def rSetOf2 (K : PySem.W.Frag) (w : World) : List V → Hp → VK → Prop := fun xs H Q => ∃ (l : Addr) (ns : List Int), xs = [.ref l] ∧ SqL K H l (ns.map V.int) ∧ ns.length ≤ 60 ∧ ∀ p c, H p = none → c ≤ ns.length → Q (.ref p) (upd H p (SetO w p (fun j => decide (j ∈ ns)) c))
theorem rSetOf2_r {K : PySem.W.Frag} {w : World} {l : Addr} {H : Hp} {Q : VK} : rSetOf2 K w [.ref l] H Q = ∃ ns : List Int, SqL K H l (ns.map V.int) ∧ ns.length ≤ 60 ∧ ∀ p c, H p = none → c ≤ ns.length → Q (.ref p) (upd H p (SetO w p (fun j => decide (j ∈ ns)) c)) := propext ⟨fun ⟨_, ns, e, h⟩ => by cases e; exact ⟨ns, h⟩, fun ⟨ns, h⟩ => ⟨l, ns, rfl, h⟩⟩
/-! ### doughs -/
structure Dgh where
  mix : Int
  dough : Int
  hold : Int
def dghD (d : Dgh) : PyData := .tuple [.int d.mix, .int d.dough, .int d.hold]
def doughsD (ds : List Dgh) : PyData := .list (ds.map dghD)
def dghB : PyData → Bool
  | .tuple [a, b, c] => numD a && numD b && numD c
  | _ => false
def dghAt (ds : List Dgh) (i : Nat) : Dgh := ds.getD i ⟨0, 0, 0⟩
def holdS (ds : List Dgh) (r k : Nat) : Int := (((ds.drop r).take k).map Dgh.hold).sum
def doughP (ds : List Dgh) (r s : Nat) : Int := (dghAt ds r).dough + holdS ds r (s - r)
theorem Th.doughs {K : PySem.W.Frag} {H : Hp} {x : V} {ds : List Dgh} (h : Th K H x (doughsD ds)) : ∃ p xs, x = .ref p ∧ SqL K H p xs ∧ ThAll K H xs (ds.map dghD) := by
  cases h with
  | lst hl ht => exact ⟨_, _, rfl, hl, ht⟩
/-! ### what entries come to, all nonnegative -/
def Tot3 (es : E3) (T : Int) : Prop := (∀ e ∈ es, 0 ≤ e.2) ∧ sum3 (fun _ => 1) es ≤ T
theorem Tot3.le {es : E3} {T : Int} (h : Tot3 es T) : ∀ e ∈ es, 0 ≤ e.2 ∧ e.2 ≤ T := by
  intro e he
  refine ⟨h.1 e he, Int.le_trans ?_ h.2⟩
  have h1 := h.1
  clear h
  induction es with
  | nil => cases he
  | cons x r ih =>
    rw [sum3_cons, Int.mul_one]
    have hr : 0 ≤ sum3 (fun _ => 1) r := by
      unfold sum3
      have : ∀ z ∈ (r.map fun e : K3 × Int => e.2 * 1), 0 ≤ z := fun z hz => by
        obtain ⟨y, hy, rfl⟩ := List.mem_map.mp hz
        have := h1 y (List.mem_cons_of_mem _ hy)
        omega
      generalize (r.map fun e : K3 × Int => e.2 * 1) = l at this
      induction l with
      | nil => exact Int.le_refl 0
      | cons a b ih2 =>
        rw [List.sum_cons]
        have := this a List.mem_cons_self
        have := ih2 fun z hz => by rename_i t; exact t z (List.mem_cons_of_mem _ hz)
        omega
    rcases List.mem_cons.mp he with rfl | he
    · omega
    · have := ih he fun y hy => h1 y (List.mem_cons_of_mem _ hy)
      have := h1 x List.mem_cons_self
      omega
theorem Tot3.nil : Tot3 [] 0 := ⟨(fun e he => by cases he), Int.le_refl 0⟩
theorem Tot3.add {es : E3} {k : K3} {m T : Int} (hn : (es.map (·.1)).Nodup) (h : Tot3 es T) (h0 : 0 ≤ m) : Tot3 (add3 es k m) (T + m) := by
  refine ⟨?_, ?_⟩
  · rintro ⟨j, v⟩ hv
    rcases add3_mem hv with hv | ⟨_, rfl⟩
    · exact h.1 _ hv
    · cases hl : look3 es k with
      | none => show 0 ≤ 0 + m; omega
      | some u =>
        have : 0 ≤ u := h.1 _ (look3_val hl)
        show 0 ≤ u + m
        omega
  · rw [add3_sum _ hn]
    have := h.2
    omega
theorem Tot3.mono {es : E3} {T U : Int} (h : Tot3 es T) (hu : T ≤ U) : Tot3 es U := ⟨h.1, Int.le_trans h.2 hu⟩
end Bk

namespace Bk
open PySem PySem.Spec PyProof.Rows L2
/-! ### plans with doughs, and what they cost -/
def mixF (ds : List Dgh) (d : Nat) : Int := (dghAt ds d).mix
def priceD (ds : List Dgh) (g : Good) (k : K3) : Int := doughP ds k.1 k.2.1 + (loafP g k.2.1 k.2.2).getD 0
structure KeyD (g : Good) (n : Nat) (k : K3) : Prop where
  ab : k.1 ≤ k.2.1
  b : k.2.1 < n
  c : k.2.2 < n
  p : ∃ p, loafP g k.2.1 k.2.2 = some p
def sumM (L : List Row4) : Int := (L.map Row4.m).sum
/-- what is known of a plan that is handed in -/
structure PlanF (g : Good) (n : Nat) (L : List Row4) : Prop where
  keys : ∀ r ∈ L, KeyD g n r.k
  pos : ∀ r ∈ L, 0 < r.m
  tot : sumM L ≤ 100000000000
  len : L.length ≤ 60
noncomputable def costD (ds : List Dgh) (ls : List Int) (g : Good) (n : Nat) (L : List Row4) : Int := litR (mixF ds) n (L.map Row4.a) + litR (rowF ls) n (L.map Row4.b) + sumR (priceD ds g) L
theorem sumM_cons (r : Row4) (L : List Row4) : sumM (r :: L) = r.m + sumM L := by
  unfold sumM
  rw [List.map_cons, List.sum_cons]
theorem sumM_nonneg {L : List Row4} (h : ∀ r ∈ L, 0 < r.m) : 0 ≤ sumM L := by
  induction L with
  | nil => exact Int.le_refl 0
  | cons r L ih =>
    rw [sumM_cons]
    have := h r List.mem_cons_self
    have := ih fun x hx => h x (List.mem_cons_of_mem _ hx)
    omega
theorem sumM_le {L : List Row4} (h : ∀ r ∈ L, 0 < r.m) : ∀ r ∈ L, r.m ≤ sumM L := by
  induction L with
  | nil => intro r hr; cases hr
  | cons x L ih =>
    intro r hr
    rw [sumM_cons]
    have h2 : ∀ r ∈ L, 0 < r.m := fun y hy => h y (List.mem_cons_of_mem _ hy)
    have := sumM_nonneg h2
    have := h x List.mem_cons_self
    rcases List.mem_cons.mp hr with rfl | hr
    · omega
    · have := ih h2 r hr
      omega
theorem PlanF.m {g : Good} {n : Nat} {L : List Row4} (h : PlanF g n L) : ∀ r ∈ L, 0 < r.m ∧ r.m ≤ 100000000000 := fun r hr => ⟨h.pos r hr, Int.le_trans (sumM_le h.pos r hr) h.tot⟩
theorem PlanF.small {g : Good} {n : Nat} {L : List Row4} (h : PlanF g n L) (hn : n ≤ 40) : SmallR L := by
  have := h.len
  refine ⟨by omega, fun r hr => ?_⟩
  have hk := h.keys r hr
  have h1 : r.a ≤ r.b := hk.ab
  have h2 : r.b < n := hk.b
  have h3 : r.c < n := hk.c
  have := h.m r hr
  exact ⟨by omega, by omega, by omega, Nat.lt_of_le_of_lt (show r.m.natAbs ≤ 100000000000 by omega) (by decide)⟩
/-! ### keys put out of order -/
/-! ### without the mixing -/
def unm (r : Row4) : K3 := (r.b, 0, r.c)
def sumU (f : K3 → Int) (L : List Row4) : Int := (L.map fun r => r.m * f (unm r)).sum
structure UnOf (L : List Row4) (es : E3) : Prop where
  nd : (es.map (·.1)).Nodup
  keys : ∀ k, k ∈ es.map (·.1) ↔ ∃ r ∈ L, unm r = k
  sum : ∀ f, sum3 f es = sumU f L
  pos : ∀ e ∈ es, 0 < e.2
  len : es.length ≤ L.length
theorem UnOf.nil : UnOf [] [] := ⟨List.nodup_nil, (fun k => ⟨(fun h => by cases h), fun ⟨r, h, _⟩ => by cases h⟩), (fun f => rfl), (fun e h => by cases h), Nat.le_refl _⟩
theorem UnOf.add {L : List Row4} {es : E3} {r : Row4} (h : UnOf L es) (hp : 0 < r.m) : UnOf (L ++ [r]) (add3 es (unm r) r.m) := by
  refine ⟨add3_nodup h.nd, fun k => ?_, fun f => ?_, fun e he => ?_, ?_⟩
  · rw [add3_key, h.keys k]
    constructor
    · rintro (⟨x, hx, e⟩ | e)
      · exact ⟨x, List.mem_append_left _ hx, e⟩
      · exact ⟨r, by simp, e.symm⟩
    · rintro ⟨x, hx, e⟩
      rcases List.mem_append.mp hx with hx | hx
      · exact .inl ⟨x, hx, e⟩
      · rw [List.mem_singleton.mp hx] at e
        exact .inr e.symm
  · rw [add3_sum f h.nd, h.sum f]
    unfold sumU
    rw [List.map_append, List.sum_append]
    simp
  · obtain ⟨k, v⟩ := e
    show 0 < v
    rcases add3_mem he with he | ⟨_, rfl⟩
    · exact h.pos _ he
    · cases hl : look3 es (unm r) with
      | none => show 0 < 0 + r.m; omega
      | some u =>
        have := h.pos _ (look3_val hl)
        dsimp only at this
        show 0 < u + r.m
        omega
  · have := add3_len es (unm r) r.m
    have := h.len
    rw [List.length_append, List.length_singleton]
    omega
theorem sum3_one (es : E3) : sum3 (fun _ => 1) es = sumM (es.map rowE) := by
  unfold sum3 sumM
  rw [List.map_map]
  congr 1
  exact List.map_congr_left fun e _ => Int.mul_one _
theorem sumU_one (L : List Row4) : sumU (fun _ => 1) L = sumM L := by
  unfold sumU sumM
  congr 1
  exact List.map_congr_left fun e _ => Int.mul_one _
theorem UnOf.tot {L : List Row4} {es : E3} (h : UnOf L es) : sumM (es.map rowE) = sumM L := by rw [← sum3_one, h.sum, sumU_one]
theorem UnOf.days {L : List Row4} {es : E3} (h : UnOf L es) (d : Nat) : d ∈ (es.map rowE).map Row4.a ↔ d ∈ L.map Row4.b := by
  rw [List.map_map]
  constructor
  · intro z
    obtain ⟨e, he, rfl⟩ := List.mem_map.mp z
    obtain ⟨r, hr, e2⟩ := (h.keys e.1).mp (List.mem_map.mpr ⟨e, he, rfl⟩)
    exact List.mem_map.mpr ⟨r, hr, by show r.b = e.1.1; rw [← e2]; rfl⟩
  · intro z
    obtain ⟨r, hr, rfl⟩ := List.mem_map.mp z
    obtain ⟨e, he, e2⟩ := List.mem_map.mp ((h.keys (unm r)).mpr ⟨r, hr, rfl⟩)
    exact List.mem_map.mpr ⟨e, he, by show e.1.1 = r.b; rw [e2]; rfl⟩
theorem UnOf.fresh {g : Good} {n : Nat} {L : List Row4} {es : E3} (h : UnOf L es) (hF : PlanF g n L) : PlanF g n ((es.map rowE).map fun r => ⟨r.a, r.a, r.c, r.m⟩) := by
  have et : sumM ((es.map rowE).map fun r => (⟨r.a, r.a, r.c, r.m⟩ : Row4)) = sumM (es.map rowE) := by
    unfold sumM
    rw [List.map_map]
    rfl
  refine ⟨fun r hr => ?_, fun r hr => ?_, by rw [et, h.tot]; exact hF.tot, by rw [List.length_map, List.length_map]; exact Nat.le_trans h.len hF.len⟩
  · obtain ⟨y, hy, rfl⟩ := List.mem_map.mp hr
    obtain ⟨e, he, rfl⟩ := List.mem_map.mp hy
    obtain ⟨x, hx, e2⟩ := (h.keys e.1).mp (List.mem_map.mpr ⟨e, he, rfl⟩)
    have hk := hF.keys x hx
    have ea : (rowE e).a = x.b := by show e.1.1 = x.b; rw [← e2]; rfl
    have ec : (rowE e).c = x.c := by show e.1.2.2 = x.c; rw [← e2]; rfl
    refine ⟨Nat.le_refl _, ?_, ?_, ?_⟩
    · show (rowE e).a < n
      rw [ea]
      exact hk.b
    · show (rowE e).c < n
      rw [ec]
      exact hk.c
    · show ∃ p, loafP g (rowE e).a (rowE e).c = some p
      rw [ea, ec]
      exact hk.p
  · obtain ⟨y, hy, rfl⟩ := List.mem_map.mp hr
    obtain ⟨e, he, rfl⟩ := List.mem_map.mp hy
    exact h.pos e he
end Bk

namespace Bk
open PySem PySem.Spec PyProof.Rows L2
/-! ### a drawn plan with doughs: its entries, while it is made -/
def ind3 (k : Nat) (key : K3) : Int := if key.2.2 = k then 1 else 0
structure BatJ (g : Good) (n i : Nat) (c : Int) (j : Nat) (es : E3) : Prop where
  nd : (es.map (·.1)).Nodup
  keys : ∀ k ∈ es.map (·.1), KeyD g n k
  pos : ∀ e ∈ es, 0 < e.2
  met : ∀ k, sum3 (ind3 k) es = if k < i then wantN g k else if k = i then c else 0
  tot : sum3 (fun _ => 1) es ≤ (i : Int) * 1000000000 + c
  len : es.length ≤ 2 * i + j
theorem BatJ.nil (g : Good) (n : Nat) : BatJ g n 0 0 0 [] := by
  refine ⟨List.nodup_nil, (fun k h => by cases h), (fun e h => by cases h), fun k => ?_, by show (0 : Int) ≤ _; omega, by simp⟩
  show (0 : Int) = _
  split
  · omega
  · split <;> rfl
theorem BatJ.add {g : Good} {n i j : Nat} {c m : Int} {es : E3} {key : K3} (h : BatJ g n i c j es) (hk : KeyD g n key) (hi : key.2.2 = i) (hm : 0 < m) : BatJ g n i (c + m) (j + 1) (add3 es key m) := by
  refine ⟨add3_nodup h.nd, fun k hk2 => ?_, fun e he => ?_, fun k => ?_, ?_, ?_⟩
  · rcases add3_key.mp hk2 with z | z
    · exact h.keys k z
    · rw [z]
      exact hk
  · obtain ⟨k, v⟩ := e
    show 0 < v
    rcases add3_mem he with he | ⟨_, rfl⟩
    · exact h.pos _ he
    · cases hl : look3 es key with
      | none => show 0 < 0 + m; omega
      | some u =>
        have := h.pos _ (look3_val hl)
        dsimp only at this
        show 0 < u + m
        omega
  · rw [add3_sum _ h.nd, h.met k]
    unfold ind3
    rw [hi]
    by_cases h1 : k < i
    · rw [if_pos h1, if_pos h1, if_neg (by omega)]
      omega
    · rw [if_neg h1, if_neg h1]
      by_cases h2 : k = i
      · rw [if_pos h2, if_pos h2, if_pos h2.symm]
        omega
      · rw [if_neg h2, if_neg h2, if_neg (fun z => h2 z.symm)]
        omega
  · rw [add3_sum _ h.nd]
    have := h.tot
    omega
  · have := add3_len es key m
    have := h.len
    omega
theorem BatJ.skip {g : Good} {n i j : Nat} {c : Int} {es : E3} (h : BatJ g n i c j es) : BatJ g n i c (j + 1) es := ⟨h.nd, h.keys, h.pos, h.met, h.tot, by have := h.len; omega⟩
theorem BatJ.next {g : Good} {n i : Nat} {es : E3} (h : BatJ g n i (wantN g i) 2 es) (hw : wantN g i ≤ 1000000000) : BatJ g n (i + 1) 0 0 es := by
  refine ⟨h.nd, h.keys, h.pos, fun k => ?_, ?_, by have := h.len; omega⟩
  · rw [h.met k]
    by_cases h1 : k < i
    · rw [if_pos h1, if_pos (by omega)]
    · rw [if_neg h1]
      by_cases h2 : k = i
      · rw [if_pos h2, if_pos (by omega), h2]
      · rw [if_neg h2, if_neg (by omega)]
        split <;> rfl
  · have := h.tot
    omega
/-- a drawn plan with doughs -/
structure Batch (g : Good) (n : Nat) (es : E3) : Prop where
  nd : (es.map (·.1)).Nodup
  keys : ∀ k ∈ es.map (·.1), KeyD g n k
  pos : ∀ e ∈ es, 0 < e.2
  met : ∀ k, k < n → sum3 (ind3 k) es = wantN g k
  tot : sum3 (fun _ => 1) es ≤ (n : Int) * 1000000000
  len : es.length ≤ 2 * n
theorem BatJ.done {g : Good} {n : Nat} {es fs : E3} (h : BatJ g n n 0 0 es) (p : fs.Perm es) : Batch g n fs := by
  refine ⟨(p.map _).nodup_iff.mpr h.nd, fun k hk => h.keys k ((p.map _).mem_iff.mp hk), fun e he => h.pos e (p.mem_iff.mp he), fun k hk => ?_, ?_, by rw [p.length_eq]; have := h.len; omega⟩
  · rw [sum3_perm p, h.met k, if_pos hk]
  · rw [sum3_perm p]
    have := h.tot
    omega
theorem Batch.plan {g : Good} {n : Nat} {es : E3} (h : Batch g n es) (hn : n ≤ 30) : PlanF g n (es.map rowE) := by
  refine ⟨fun r hr => ?_, fun r hr => ?_, ?_, ?_⟩
  · obtain ⟨e, he, rfl⟩ := List.mem_map.mp hr
    exact h.keys _ (List.mem_map.mpr ⟨e, he, rfl⟩)
  · obtain ⟨e, he, rfl⟩ := List.mem_map.mp hr
    exact h.pos e he
  · rw [← sum3_one]
    have := h.tot
    omega
  · rw [List.length_map]
    have := h.len
    omega
end Bk

namespace Bk
open PySem PySem.Spec PyProof.Rows L2
/-! ### the days on which loaves for a day can be baked -/
def thereG (g : Good) (k n : Nat) : List Int := ((List.range n).filter fun j => (loafP g j k).isSome).map fun j => ((j : Nat) : Int)
/-- a heap without one place -/
def without (D : Addr) (H : Hp) : Hp := fun b => if b = D then none else H b
theorem nums_of_day {d : Day} (h : dayB (dayD d) = true) : (0 ≤ d.want ∧ d.want ≤ 1000000000) ∧ (0 ≤ d.loaf ∧ d.loaf ≤ 1000000000) ∧ (0 ≤ d.keep ∧ d.keep ≤ 1000000000) ∧ ∀ z, d.fine = some z → 0 ≤ z ∧ z ≤ 1000000000 := by
  simp only [dayD, dayB, Bool.and_eq_true] at h
  obtain ⟨⟨⟨n1, n2⟩, n3⟩, n4⟩ := h
  simp only [numD, Bool.and_eq_true, decide_eq_true_eq] at n1 n2 n3
  refine ⟨n1, n2, n3, fun z e => ?_⟩
  rw [e] at n4
  simp only [optD, noneB, Bool.false_or, numD, Bool.and_eq_true, decide_eq_true_eq] at n4
  exact n4
end Bk

namespace Bk
open PySem PySem.Spec PyProof.Rows L2
/-! ### a bakery whose lists are the law's own, to be changed in place -/
/-- the tuples alone -/
def tupsOf (H : Hp) : Hp := fun b => match H b with
  | some (.tup xs) => some (.tup xs)
  | _ => none
theorem tupsOf_at {H : Hp} {b : Addr} {xs : List V} (h : H b = some (.tup xs)) : tupsOf H b = some (.tup xs) := by
  unfold tupsOf
  rw [h]
theorem tupsOf_is {H : Hp} {b : Addr} {o : HO} (h : tupsOf H b = some o) : H b = some o ∧ ∃ xs, o = .tup xs := by
  unfold tupsOf at h
  split at h
  · rename_i xs e
    cases h
    exact ⟨e, xs, rfl⟩
  · cases h
theorem tupsOf_same (H : Hp) : Same (tupsOf H) H := fun b o e => (tupsOf_is e).1
theorem tupsOf_mono {H H' : Hp} (s : Same H H') : Same (tupsOf H) (tupsOf H') := fun b o e => by
  obtain ⟨e1, xs, rfl⟩ := tupsOf_is e
  exact tupsOf_at (s _ _ e1)
/-- a change of what is no tuple leaves them -/
theorem tupsOf_upd {H : Hp} {a : Addr} {ys : List V} {o : HO} (h : H a = some (.lst ys)) : Same (tupsOf H) (tupsOf (upd H a o)) := fun b p e => by
  obtain ⟨e1, xs, rfl⟩ := tupsOf_is e
  refine tupsOf_at ?_
  rw [upd_ne]
  · exact e1
  · intro z
    rw [z, h] at e1
    cases e1
/-- a good that is made of an own tuple, an own list of days, and tuples -/
structure OwnG (H : Hp) (p : Addr × Addr) (g : Good) : Prop where
  tup : H p.1 = some (.tup [.ref p.2, optV g.life])
  lst : ∃ xs, H p.2 = some (.lst xs) ∧ TkAll (tupsOf H) xs (g.days.map dayD)
theorem OwnG.tk {H : Hp} {p : Addr × Addr} {g : Good} (h : OwnG H p g) : Tk H (.ref p.1) (goodD g) := by
  obtain ⟨xs, h1, h2⟩ := h.lst
  exact .tup h.tup (.cons (.lst h1 (h2.same (tupsOf_same _))) (.cons (Tk.optV _) .nil))
theorem OwnG.same {H H' : Hp} {p : Addr × Addr} {g : Good} (s : Same H H') (h : OwnG H p g) : OwnG H' p g := by
  obtain ⟨xs, h1, h2⟩ := h.lst
  exact ⟨s _ _ h.tup, xs, s _ _ h1, h2.same (tupsOf_mono s)⟩
inductive OwnGs (H : Hp) : List (Addr × Addr) → List Good → Prop
  | nil : OwnGs H [] []
  | cons {p : Addr × Addr} {g : Good} {ps : List (Addr × Addr)} {gs : List Good} : OwnG H p g → OwnGs H ps gs → OwnGs H (p :: ps) (g :: gs)
theorem OwnGs.same {H H' : Hp} (s : Same H H') : ∀ {ps : List (Addr × Addr)} {gs : List Good}, OwnGs H ps gs → OwnGs H' ps gs
  | _, _, .nil => .nil
  | _, _, .cons h t => .cons (h.same s) (OwnGs.same s t)
theorem OwnGs.tk {H : Hp} : ∀ {ps : List (Addr × Addr)} {gs : List Good}, OwnGs H ps gs → TkAll H (ps.map fun p => V.ref p.1) (gs.map goodD)
  | _, _, .nil => .nil
  | _, _, .cons h t => .cons h.tk (OwnGs.tk t)
theorem OwnGs.length {H : Hp} : ∀ {ps : List (Addr × Addr)} {gs : List Good}, OwnGs H ps gs → ps.length = gs.length
  | _, _, .nil => rfl
  | _, _, .cons _ t => by rw [List.length_cons, List.length_cons, OwnGs.length t]
theorem OwnGs.get {H : Hp} : ∀ {ps : List (Addr × Addr)} {gs : List Good} {i : Nat} {g : Good}, OwnGs H ps gs → gs[i]? = some g → ∃ p, ps[i]? = some p ∧ OwnG H p g
  | _, _, _, _, .nil, e => by simp at e
  | _, _, 0, _, .cons h _, e => by
    rw [List.getElem?_cons_zero] at e
    cases e
    exact ⟨_, List.getElem?_cons_zero .., h⟩
  | _, _, i + 1, _, .cons _ t, e => by
    rw [List.getElem?_cons_succ] at e
    obtain ⟨p, h1, h2⟩ := OwnGs.get t e
    exact ⟨p, by rw [List.getElem?_cons_succ]; exact h1, h2⟩
/-- lights, and one or two goods, whose lists are apart -/
structure OwnB (H : Hp) (L G : Addr) (ps : List (Addr × Addr)) (ls : List Int) (gs : List Good) : Prop where
  lights : H L = some (.lst (ls.map V.int))
  list : H G = some (.lst (ps.map fun p => V.ref p.1))
  goods : OwnGs H ps gs
  apart : (ps.map (·.2)).Nodup
theorem OwnB.same {H H' : Hp} {L G : Addr} {ps : List (Addr × Addr)} {ls : List Int} {gs : List Good} (s : Same H H') (h : OwnB H L G ps ls gs) : OwnB H' L G ps ls gs :=
  ⟨s _ _ h.lights, s _ _ h.list, h.goods.same s, h.apart⟩
theorem OwnB.bak {K : PySem.W.Frag} {H : Hp} {L G t : Addr} {ps : List (Addr × Addr)} {ls : List Int} {gs : List Good} {b : Option Int} (h : OwnB H L G ps ls gs) (e : H t = some (.tup [.ref L, optV b, .ref G])) : Th K H (.ref t) (bakD ⟨ls, b, gs⟩) :=
  (Tk.tup e (.cons (.lst h.lights (TkAll.ints ls)) (.cons (Tk.optV b) (.cons (.lst h.list h.goods.tk) .nil)))).th
def livesG : List (Option Int) := [none, none, some 0, some 1, some 2, some 3, some 4, some 5, some 7, some 11, some 23, some 40]
/-- what all goods keep -/
def GoodsOk (n : Nat) (gs : List Good) : Prop := ∀ g ∈ gs, g.days.length = n ∧ lifeB (optD g.life) = true ∧ ∀ d ∈ g.days, dayB (dayD d) = true
end Bk

namespace Bk
open PySem PySem.Spec PyProof.Rows L2
/-! ### a drawn plan of one or two goods: its entries, while it is made -/
def wantG (gs : List Good) (a k : Nat) : Int := match gs[a]? with
  | some g => wantN g k
  | none => 0
def indL (a k : Nat) (key : K3) : Int := if key.2.1 = a ∧ key.2.2 = k then 1 else 0
structure KeyL (gs : List Good) (n : Nat) (k : K3) : Prop where
  a : k.1 < n
  c : k.2.2 < n
  p : ∃ g, gs[k.2.1]? = some g ∧ ∃ p, loafP g k.1 k.2.2 = some p
structure LotJ (gs : List Good) (n a i : Nat) (c : Int) (j : Nat) (es : E3) : Prop where
  nd : (es.map (·.1)).Nodup
  keys : ∀ k ∈ es.map (·.1), KeyL gs n k
  pos : ∀ e ∈ es, 0 < e.2
  met : ∀ b k, sum3 (indL b k) es = if b < a then wantG gs b k else if b = a then (if k < i then wantG gs a k else if k = i then c else 0) else 0
  tot : sum3 (fun _ => 1) es ≤ ((a * n + i : Nat) : Int) * 1000000000 + c
  len : es.length ≤ 2 * (a * n + i) + j
theorem LotJ.nil (gs : List Good) (n : Nat) : LotJ gs n 0 0 0 0 [] := by
  refine ⟨List.nodup_nil, (fun k h => by cases h), (fun e h => by cases h), fun b k => ?_, by show (0 : Int) ≤ _; omega, by simp⟩
  show (0 : Int) = _
  split
  · omega
  · split
    · split
      · omega
      · split <;> rfl
    · rfl
theorem LotJ.add {gs : List Good} {n a i j : Nat} {c m : Int} {es : E3} {key : K3} (h : LotJ gs n a i c j es) (hk : KeyL gs n key) (ha : key.2.1 = a) (hi : key.2.2 = i) (hm : 0 < m) : LotJ gs n a i (c + m) (j + 1) (add3 es key m) := by
  refine ⟨add3_nodup h.nd, fun k hk2 => ?_, fun e he => ?_, fun b k => ?_, ?_, ?_⟩
  · rcases add3_key.mp hk2 with z | z
    · exact h.keys k z
    · rw [z]
      exact hk
  · obtain ⟨k, v⟩ := e
    show 0 < v
    rcases add3_mem he with he | ⟨_, rfl⟩
    · exact h.pos _ he
    · cases hl : look3 es key with
      | none => show 0 < 0 + m; omega
      | some u =>
        have := h.pos _ (look3_val hl)
        dsimp only at this
        show 0 < u + m
        omega
  · rw [add3_sum _ h.nd, h.met b k]
    unfold indL
    rw [ha, hi]
    by_cases h1 : b < a
    · rw [if_pos h1, if_pos h1, if_neg (by omega)]
      omega
    · rw [if_neg h1, if_neg h1]
      by_cases h2 : b = a
      · rw [if_pos h2, if_pos h2]
        by_cases h3 : k < i
        · rw [if_pos h3, if_pos h3, if_neg (by omega)]
          omega
        · rw [if_neg h3, if_neg h3]
          by_cases h4 : k = i
          · rw [if_pos h4, if_pos h4, if_pos ⟨h2.symm, h4.symm⟩]
            omega
          · rw [if_neg h4, if_neg h4, if_neg (by omega)]
            omega
      · rw [if_neg h2, if_neg h2, if_neg (by omega)]
        omega
  · rw [add3_sum _ h.nd]
    have := h.tot
    omega
  · have := add3_len es key m
    have := h.len
    omega
theorem LotJ.skip {gs : List Good} {n a i j : Nat} {c : Int} {es : E3} (h : LotJ gs n a i c j es) : LotJ gs n a i c (j + 1) es := ⟨h.nd, h.keys, h.pos, h.met, h.tot, by have := h.len; omega⟩
theorem LotJ.next {gs : List Good} {n a i : Nat} {es : E3} (h : LotJ gs n a i (wantG gs a i) 2 es) (hw : wantG gs a i ≤ 1000000000) : LotJ gs n a (i + 1) 0 0 es := by
  refine ⟨h.nd, h.keys, h.pos, fun b k => ?_, ?_, by have := h.len; omega⟩
  · rw [h.met b k]
    by_cases h1 : b < a
    · rw [if_pos h1, if_pos h1]
    · rw [if_neg h1, if_neg h1]
      by_cases h2 : b = a
      · rw [if_pos h2, if_pos h2]
        by_cases h3 : k < i
        · rw [if_pos h3, if_pos (by omega)]
        · rw [if_neg h3]
          by_cases h4 : k = i
          · rw [if_pos h4, if_pos (by omega), h4]
          · rw [if_neg h4, if_neg (by omega)]
            split <;> rfl
      · rw [if_neg h2, if_neg h2]
  · have := h.tot
    have e : ((a * n + (i + 1) : Nat) : Int) = ((a * n + i : Nat) : Int) + 1 := by omega
    rw [e]
    generalize ((a * n + i : Nat) : Int) = z at this ⊢
    omega
theorem LotJ.good {gs : List Good} {n a : Nat} {es : E3} (h : LotJ gs n a n 0 0 es) (hn : ∀ k, n ≤ k → wantG gs a k = 0) : LotJ gs n (a + 1) 0 0 0 es := by
  refine ⟨h.nd, h.keys, h.pos, fun b k => ?_, ?_, ?_⟩
  · rw [h.met b k]
    by_cases h1 : b < a
    · rw [if_pos h1, if_pos (by omega)]
    · rw [if_neg h1]
      by_cases h2 : b = a
      · subst h2
        rw [if_pos rfl, if_pos (show b < b + 1 by omega)]
        by_cases h3 : k < n
        · rw [if_pos h3]
        · rw [if_neg h3, hn k (by omega)]
          split <;> rfl
      · rw [if_neg h2, if_neg (by omega)]
        split
        · split
          · omega
          · split <;> rfl
        · rfl
  · have := h.tot
    rw [Nat.add_mul, Nat.one_mul, Nat.add_zero]
    exact this
  · have := h.len
    rw [Nat.add_mul, Nat.one_mul, Nat.add_zero]
    omega
/-- a drawn plan of one or two goods -/
structure Lots (gs : List Good) (n : Nat) (es : E3) : Prop where
  nd : (es.map (·.1)).Nodup
  keys : ∀ k ∈ es.map (·.1), KeyL gs n k
  pos : ∀ e ∈ es, 0 < e.2
  met : ∀ b k, sum3 (indL b k) es = wantG gs b k
  tot : sum3 (fun _ => 1) es ≤ ((gs.length * n : Nat) : Int) * 1000000000
  len : es.length ≤ 2 * (gs.length * n)
theorem LotJ.done {gs : List Good} {n : Nat} {es fs : E3} (h : LotJ gs n gs.length 0 0 0 es) (p : fs.Perm es) : Lots gs n fs := by
  refine ⟨(p.map _).nodup_iff.mpr h.nd, fun k hk => h.keys k ((p.map _).mem_iff.mp hk), fun e he => h.pos e (p.mem_iff.mp he), fun b k => ?_, ?_, by rw [p.length_eq]; have := h.len; omega⟩
  · rw [sum3_perm p, h.met b k]
    by_cases h1 : b < gs.length
    · rw [if_pos h1]
    · rw [if_neg h1]
      have e : wantG gs b k = 0 := by
        unfold wantG
        rw [List.getElem?_eq_none (by omega)]
      rw [e]
      split
      · split
        · omega
        · split <;> rfl
      · rfl
  · rw [sum3_perm p]
    have := h.tot
    omega
end Bk

namespace Bk
open PySem PySem.Spec PyProof.Rows L2
def dayAt (h : Row4 → Nat) (zs : List (Addr × Row4)) (i j : Nat) : Bool := match zs[j]? with | some z => decide (h z.2 = i) | none => false
/-- the lit days of a plan, below n -/
def litDs (L : List Row4) (n : Nat) : List Int := ((List.range n).filter fun d => decide (d ∈ L.map Row4.a)).map fun d => ((d : Nat) : Int)
/-- how many loaves are baked on a day -/
def loadR (L : List Row4) (d : Nat) : Int := (L.map fun r => if r.a = d then r.m else 0).sum
end Bk

namespace Bk
open PySem PySem.Spec PyProof.Rows L2
theorem ThAll.set {K : PySem.W.Frag} {H : Hp} {x : V} {e : PyData} : ∀ {vs : List V} {ds : List PyData} {i : Nat}, ThAll K H vs ds → Th K H x e → ThAll K H (vs.set i x) (ds.set i e)
  | _, _, _, .nil, _ => .nil
  | _, _, 0, .cons _ t, h => .cons h t
  | _, _, i + 1, .cons h t, h2 => .cons h (ThAll.set t h2)
/-! ### a want less, a price put otherwise -/
def lessD (m : Int) (d : Day) : Day := ⟨d.want - m, d.loaf, d.keep, d.fine⟩
def lessG (g : Good) (k : Nat) (m : Int) : Good := match g.days[k]? with
  | some d => ⟨g.days.set k (lessD m d), g.life⟩
  | none => g
def lessB (b : Bak) (r : Row4) : Bak := match b.goods[r.b]? with
  | some g => ⟨b.lights, b.bound, b.goods.set r.b (lessG g r.c r.m)⟩
  | none => b
/-- a loaf has a price by lives and fines alone -/
theorem loafP_there {g g' : Good} (hl : g'.life = g.life) (hf : g'.days.map Day.fine = g.days.map Day.fine) {j k : Nat} (h : ∃ p, loafP g j k = some p) : ∃ p, loafP g' j k = some p := by
  obtain ⟨p, h⟩ := h
  have hlen : g'.days.length = g.days.length := by
    have := congrArg List.length hf
    rw [List.length_map, List.length_map] at this
    exact this
  have hfi : ∀ a b, finesL g'.days a b = finesL g.days a b := fun a b => by
    unfold finesL
    rw [List.map_take, List.map_drop, List.map_take, List.map_drop, hf]
  unfold loafP at h ⊢
  cases hd : g.days[j]? with
  | none => rw [hd] at h; cases h
  | some d =>
    rw [hd] at h
    have hj : j < g'.days.length := by
      rw [hlen]
      exact (List.getElem?_eq_some_iff.mp hd).1
    rw [List.getElem?_eq_getElem hj]
    dsimp only at h ⊢
    rw [hl, hfi]
    by_cases hk : k < j
    · rw [if_pos hk] at h ⊢
      obtain ⟨z, hz, _⟩ := Option.map_eq_some_iff.mp h
      rw [hz]
      exact ⟨_, rfl⟩
    · rw [if_neg hk] at h ⊢
      cases hg : g.life with
      | none => exact ⟨_, rfl⟩
      | some l =>
        rw [hg] at h
        dsimp only at h ⊢
        split at h
        · cases h
        · rename_i hz
          rw [if_neg hz]
          exact ⟨_, rfl⟩
theorem FitR.turn {b c : Bak} {n : Nat} {q : Row4} (h : FitR b n q) (k : ∀ (i : Nat) (g : Good), b.goods[i]? = some g → ∃ g' : Good, c.goods[i]? = some g' ∧ g'.life = g.life ∧ g'.days.map Day.fine = g.days.map Day.fine) : FitR c n q := by
  obtain ⟨g, hg, hp⟩ := h.p
  obtain ⟨g', h1, h2, h3⟩ := k _ g hg
  exact ⟨h.a, h.c, h.m, g', h1, loafP_there h2 h3 hp⟩
end Bk

namespace Bk
open PySem PySem.Spec PyProof.Rows L2
theorem sum3_ge {f : K3 → Int} {es : E3} (h : ∀ e ∈ es, 0 ≤ e.2 * f e.1) : 0 ≤ sum3 f es := by
  induction es with
  | nil => exact Int.le_refl 0
  | cons x r ih =>
    rw [sum3_cons]
    have := h x List.mem_cons_self
    have := ih fun e he => h e (List.mem_cons_of_mem _ he)
    omega
theorem sum3_each {f : K3 → Int} {es : E3} (h : ∀ e ∈ es, 0 ≤ e.2 * f e.1) : ∀ e ∈ es, e.2 * f e.1 ≤ sum3 f es := by
  induction es with
  | nil => intro e he; cases he
  | cons x r ih =>
    intro e he
    rw [sum3_cons]
    have hr : ∀ e ∈ r, 0 ≤ e.2 * f e.1 := fun e he => h e (List.mem_cons_of_mem _ he)
    have h0 := sum3_ge hr
    have h1 := h x List.mem_cons_self
    rcases List.mem_cons.mp he with rfl | he
    · omega
    · have := ih hr e he
      omega
theorem Lots.le_tot {gs : List Good} {n : Nat} {es : E3} (h : Lots gs n es) : ∀ e ∈ es, 0 < e.2 ∧ e.2 ≤ ((gs.length * n : Nat) : Int) * 1000000000 := fun e he => by
  refine ⟨h.pos e he, ?_⟩
  have := sum3_each (f := fun _ => 1) (fun x hx => by have := h.pos x hx; omega) e he
  have := h.tot
  omega
theorem lots_bound {a n : Nat} (ha : a ≤ 2) (hn : n ≤ 40) : ((a * n : Nat) : Int) * 1000000000 ≤ 80000000000 := by
  have : a * n ≤ 2 * 40 := Nat.mul_le_mul ha hn
  omega
theorem Lots.small {gs : List Good} {n : Nat} {es : E3} (h : Lots gs n es) (hg : gs.length ≤ 2) (hn : n ≤ 40) : SmallR (es.map rowE) := by
  have hl := h.len
  have : gs.length * n ≤ 2 * 40 := Nat.mul_le_mul hg hn
  refine ⟨by rw [List.length_map]; omega, fun r hr => ?_⟩
  obtain ⟨e, he, rfl⟩ := List.mem_map.mp hr
  have hk := h.keys _ (List.mem_map.mpr ⟨e, he, rfl⟩)
  have h1 := h.le_tot e he
  have h2 := lots_bound hg hn
  obtain ⟨g, hg1, hp⟩ := hk.p
  have hb : e.1.2.1 < gs.length := (List.getElem?_eq_some_iff.mp hg1).1
  have ha := hk.a
  have hc := hk.c
  refine ⟨by show e.1.1 < 1000; omega, by show e.1.2.1 < 1000; omega, by show e.1.2.2 < 1000; omega, ?_⟩
  show e.2.natAbs < 10 ^ 12
  exact Nat.lt_of_le_of_lt (show e.2.natAbs ≤ 80000000000 by omega) (by decide)
theorem TkAll.setAt {H : Hp} {x : V} {e : PyData} : ∀ {vs : List V} {ds : List PyData} {i : Nat}, TkAll H vs ds → Tk H x e → TkAll H (vs.set i x) (ds.set i e)
  | _, _, _, .nil, _ => .nil
  | _, _, 0, .cons _ t, h => .cons h t
  | _, _, i + 1, .cons h t, h2 => .cons h (TkAll.setAt t h2)
theorem newOf_is {H H' : Hp} {b : Addr} {o : HO} (h : newOf H H' b = some o) : H b = none ∧ H' b = some o := by
  unfold newOf at h
  split at h
  · rename_i e
    exact ⟨e, h⟩
  · cases h
/-- the last day's loaf put otherwise, the first light too -/
def turnD (d : Day) : Day := ⟨d.want, 1000000000 - d.loaf, d.keep, d.fine⟩
def turnG (g : Good) : Good := match g.days[g.days.length - 1]? with
  | some d => ⟨g.days.set (g.days.length - 1) (turnD d), g.life⟩
  | none => g
end Bk

namespace Bk
open PySem PySem.Spec PyProof.Rows L2
theorem OwnG.upd {H : Hp} {q : Addr × Addr} {g : Good} {A : Addr} {ys : List V} {o : HO} (h : OwnG H q g) (hA : H A = some (.lst ys)) (ne : q.2 ≠ A) : OwnG (upd H A o) q g := by
  obtain ⟨xs, h1, h2⟩ := h.lst
  refine ⟨?_, xs, by rw [upd_ne ne]; exact h1, h2.same (tupsOf_upd hA)⟩
  rw [upd_ne fun z => by have := h.tup; rw [z, hA] at this; cases this]
  exact h.tup
theorem OwnGs.upd {H : Hp} {A : Addr} {ys : List V} {o : HO} (hA : H A = some (.lst ys)) : ∀ {ps : List (Addr × Addr)} {gs : List Good}, OwnGs H ps gs → (∀ q ∈ ps, q.2 ≠ A) → OwnGs (upd H A o) ps gs
  | _, _, .nil, _ => .nil
  | _, _, .cons h t, ne => .cons (h.upd hA (ne _ List.mem_cons_self)) (OwnGs.upd hA t fun q hq => ne q (List.mem_cons_of_mem _ hq))
theorem OwnGs.mem {H : Hp} : ∀ {ps : List (Addr × Addr)} {gs : List Good}, OwnGs H ps gs → ∀ q ∈ ps, ∃ g ∈ gs, OwnG H q g
  | _, _, .nil, q, hq => by cases hq
  | _, _, .cons h t, q, hq => by
    rcases List.mem_cons.mp hq with rfl | hq
    · exact ⟨_, List.mem_cons_self, h⟩
    · obtain ⟨g, hg, hq2⟩ := OwnGs.mem t q hq
      exact ⟨g, List.mem_cons_of_mem _ hg, hq2⟩
/-- a list of days holds no numbers, and no goods -/
theorem OwnG.head {H : Hp} {q : Addr × Addr} {g : Good} (h : OwnG H q g) (hn : 1 ≤ g.days.length) : ∃ (t : Addr) (d : Day) (xs : List V), H q.2 = some (.lst (.ref t :: xs)) ∧ H t = some (.tup [.int d.want, .int d.loaf, .int d.keep, optV d.fine]) := by
  obtain ⟨xs, h1, h2⟩ := h.lst
  cases hd : g.days with
  | nil => rw [hd] at hn; simp at hn
  | cons d r =>
    rw [hd] at h2
    have h2 : TkAll (tupsOf H) xs (dayD d :: r.map dayD) := h2
    cases h2 with
    | cons h3 h4 =>
      have h3 : Tk (tupsOf H) _ (.tuple [.int d.want, .int d.loaf, .int d.keep, optD d.fine]) := h3
      cases h3 with
      | tup ht hta =>
        cases hta with
        | cons t1 hta => cases hta with
        | cons t2 hta => cases hta with
        | cons t3 hta => cases hta with
        | cons t4 hta =>
        cases hta
        cases t1; cases t2; cases t3
        have e := t4.opt
        subst e
        exact ⟨_, d, _, h1, (tupsOf_is ht).1⟩
structure Apart (H : Hp) (L G : Addr) (ps : List (Addr × Addr)) : Prop where
  lg : L ≠ G
  ql : ∀ q ∈ ps, q.2 ≠ L
  qg : ∀ q ∈ ps, q.2 ≠ G
theorem OwnB.parts {H : Hp} {L G : Addr} {ps : List (Addr × Addr)} {ls : List Int} {gs : List Good} (h : OwnB H L G ps ls gs) (h1 : 1 ≤ ls.length) (h2 : 1 ≤ gs.length) (h3 : ∀ g ∈ gs, 1 ≤ g.days.length) : Apart H L G ps := by
  obtain ⟨l0, lr, rfl⟩ : ∃ l0 lr, ls = l0 :: lr := by
    cases ls with
    | nil => simp at h1
    | cons a b => exact ⟨a, b, rfl⟩
  have hps := h.goods.length
  obtain ⟨q0, qr, rfl⟩ : ∃ q0 qr, ps = q0 :: qr := by
    cases ps with
    | nil => simp at hps; omega
    | cons a b => exact ⟨a, b, rfl⟩
  have hL := h.lights
  have hG := h.list
  refine ⟨fun z => ?_, fun q hq z => ?_, fun q hq z => ?_⟩
  · rw [z, hG] at hL
    cases hL
  · obtain ⟨g, hg, ho⟩ := h.goods.mem q hq
    obtain ⟨t, d, xs, e1, e2⟩ := ho.head (h3 g hg)
    rw [z, hL] at e1
    cases e1
  · obtain ⟨g, hg, ho⟩ := h.goods.mem q hq
    obtain ⟨t, d, xs, e1, e2⟩ := ho.head (h3 g hg)
    rw [z, hG] at e1
    cases e1
    obtain ⟨g0, hg0, ho0⟩ := h.goods.mem q0 List.mem_cons_self
    have := ho0.tup
    rw [e2] at this
    cases this
theorem OwnB.light {H : Hp} {L G : Addr} {ps : List (Addr × Addr)} {ls ms : List Int} {gs : List Good} (h : OwnB H L G ps ls gs) (a : Apart H L G ps) : OwnB (upd H L (.lst (ms.map V.int))) L G ps ms gs :=
  ⟨upd_same, by rw [upd_ne a.lg.symm]; exact h.list, h.goods.upd h.lights a.ql, h.apart⟩
theorem OwnB.day {H : Hp} {L G : Addr} {q : Addr × Addr} {ps : List (Addr × Addr)} {ls : List Int} {g g' : Good} {gs : List Good} {m : Nat} {t : Addr} {d : Day} {xs : List V} (h : OwnB H L G (q :: ps) ls (g :: gs)) (a : Apart H L G (q :: ps)) (hx : H q.2 = some (.lst xs)) (ht : H t = some (.tup [.int d.want, .int d.loaf, .int d.keep, optV d.fine])) (h1 : g'.life = g.life) (h2 : g'.days = g.days.set m d) : OwnB (upd H q.2 (.lst (xs.set m (.ref t)))) L G (q :: ps) ls (g' :: gs) := by
  have hnd := h.apart
  rw [List.map_cons, List.nodup_cons] at hnd
  have hg := h.goods
  cases hg with
  | cons ho hr =>
  obtain ⟨ys, e1, e2⟩ := ho.lst
  rw [hx] at e1
  cases e1
  have su := tupsOf_upd (o := .lst (xs.set m (.ref t))) hx
  refine ⟨by rw [upd_ne (a.ql q List.mem_cons_self).symm]; exact h.lights, by rw [upd_ne (a.qg q List.mem_cons_self).symm]; exact h.list, .cons ⟨?_, _, upd_same, ?_⟩ (hr.upd hx fun p hp z => hnd.1 (List.mem_map.mpr ⟨p, hp, z⟩)), h.apart⟩
  · rw [upd_ne (fun z => by have := ho.tup; rw [z, hx] at this; cases this), h1]
    exact ho.tup
  · rw [h2, List.map_set]
    refine TkAll.setAt (e2.same su) (.tup (su _ _ (tupsOf_at ht)) (.cons (.int _) (.cons (.int _) (.cons (.int _) (.cons (Tk.optV _) .nil)))))
end Bk

namespace Bk
open PySem PySem.Spec PyProof.Rows L2
/-! ### enumerate over zip: zip's own pair may be held by what enumerate hands out, be gone, or not be there yet -/
abbrev zObj (f0 : Value) (f : Bool) (TI TO : Addr) : Obj := { cls := .type "zip", dict := none, data := .fields #[f0, .bool f, .bool false, .ref TI, .ref TO], slots := #[] }
section
variable {prog : Program} {w : World} {A : Around} {E : Value → Shared → Prop} {s : Shared}
theorem load_if {a : Addr} {Q : Option Obj → Shared → Prop} (h : Q (s.heap.get? a) s) : wpAny (model prog w) A (loadIfAlive a) Q E s := fun _ _ _ => h
/-- zip's pair may be written again: it is not there yet, or gone -/
def MayWrite (h : Heap) (f0 : Value) : Prop := f0 = .none ∨ ∃ T : Addr, f0 = rawInt T ∧ h.get? T = none
theorem zip_may {z TI TO : Addr} {f0 : Value} {f : Bool} {Q : Bool → Shared → Prop} (hz : s.heap.get? z = some (zObj f0 f TI TO)) (hm : MayWrite s.heap f0) (h : Q true s) :
    wpAny (model prog w) A (Builtin.SmallTypes.ownedTupleIsFree (.ref z)) Q E s := by
  unfold Builtin.SmallTypes.ownedTupleIsFree
  rcases hm with rfl | ⟨T, rfl, hT⟩
  · exact wpAny_bind (wpAny_field hz rfl (x := .none) rfl (wpAny_pure h))
  · refine wpAny_bind (wpAny_field hz rfl (x := rawInt T) rfl ?_)
    show wpAny _ _ (loadIfAlive ((T : Int).toNat) >>= _) _ _ _
    rw [Int.toNat_natCast]
    refine wpAny_bind (load_if ?_)
    rw [hT]
    exact wpAny_pure h
theorem zip_item_may {z TI TO i1 i2 l1 l2 : Addr} {f0 : Value} {f : Bool} {k : Nat} {xs ys : Array Value} {x y a b : Value} {Q : Value → Shared → Prop} (D : ZipApart z TI TO i1 i2 l1 l2)
    (hz : s.heap.get? z = some (zObj f0 f TI TO)) (hm : MayWrite s.heap f0) (hTI : IsPair s.heap TI (.ref i1) (.ref i2)) (hTO : IsPair s.heap TO a b)
    (h1 : s.heap.IsListIter i1 l1 k) (h2 : s.heap.IsListIter i2 l2 k) (hl1 : s.heap.IsList l1 xs) (hl2 : s.heap.IsList l2 ys) (hx : xs[k]? = some x) (hy : ys[k]? = some y)
    (hQ : ∀ h', h'.get? z = some (zObj (rawInt s.heap.objs.size) false TI TO) → IsPair h' TO x y → h'.IsListIter i1 l1 (k + 1) → h'.IsListIter i2 l2 (k + 1) → IsPair h' s.heap.objs.size x y → h'.objs.size = s.heap.objs.size + 1 →
      (∀ c o, c ≠ z → c ≠ TO → c ≠ i1 → c ≠ i2 → s.heap.get? c = some o → h'.get? c = some o) → Q (.ref s.heap.objs.size) { s with heap := h' }) :
    wpAny (model prog w) A (Builtin.«zip.__next__» ⟨[.ref z], []⟩) (fun fin s' => ∃ v, fin = .done (.ret v) ∧ Q v s') E s := by
  show wpAny _ _ (field (.ref z) 2 >>= _) _ _ _
  refine wpAny_bind (wpAny_field hz rfl (x := .bool false) rfl ?_)
  show wpAny _ _ (field (.ref z) 3 >>= _) _ _ _
  refine wpAny_bind (wpAny_field hz rfl (x := .ref TI) rfl (wpAny_bind (wpAny_seqItems hTI rfl ?_)))
  show wpAny _ _ (Builtin.SmallTypes.ownedTupleIsFree (.ref z) >>= _) _ _ _
  refine wpAny_bind (zip_may hz hm ?_)
  simp only [if_true]
  refine wpAny_bind (wpAny_rule (wpAny_bind (wpAny_field hz rfl (x := .ref TO) rfl (wpAny_bind (wpAny_setField_rec hz (by simp) fun g1 z1 s1 => ?_)))))
  replace z1 : g1.get? z = some (zObj .ellipsis f TI TO) := z1
  refine wpAny_bind ?_
  simp only [List.zipIdx_cons, List.zipIdx_nil, List.forIn_cons, List.forIn_nil]
  refine wpAny_bind (wpAny_bind (wpAny_onRaise ?_))
  show wpAny _ _ (Builtin.SmallTypes.nextOf (.ref i1) >>= _) _ _ _
  refine wpAny_bind (wpAny_nextOf_list_item (h1.extBut s1.extBut D.i1z) (hl1.extBut s1.extBut D.l1z) hx fun g2 e1 s2 => wpAny_pure ?_)
  have o2 : IsPair g2 TO a b := s2.extBut _ _ D.TOi1 (s1.extBut _ _ D.TOz hTO)
  refine wpAny_bind (wpAny_seqItems o2 rfl (wpAny_bind (wpAny_updateSeq_pair o2 fun g3 o3 s3 => ?_)))
  replace o3 : IsPair g3 TO x b := o3
  refine wpAny_bind (wpAny_letGo (wpAny_pure (wpAny_bind (wpAny_bind (wpAny_onRaise ?_)))))
  show wpAny _ _ (Builtin.SmallTypes.nextOf (.ref i2) >>= _) _ _ _
  refine wpAny_bind (wpAny_nextOf_list_item (((h2.extBut s1.extBut D.i2z).extBut s2.extBut D.i12.symm).extBut s3.extBut D.TOi2.symm)
    (((hl2.extBut s1.extBut D.l2z).extBut s2.extBut D.l2i1).extBut s3.extBut D.l2TO) hy fun g4 e2 s4 => wpAny_pure ?_)
  have o4 : IsPair g4 TO x b := s4.extBut _ _ D.TOi2 o3
  refine wpAny_bind (wpAny_seqItems o4 rfl (wpAny_bind (wpAny_updateSeq_pair o4 fun g5 o5 s5 => ?_)))
  replace o5 : IsPair g5 TO x y := o5
  refine wpAny_bind (wpAny_letGo (wpAny_pure (wpAny_pure (wpAny_bind (wpAny_seqItems o5 rfl (wpAny_bind (wpAny_newTuple ?_)))))))
  have hsz : g5.objs.size = s.heap.objs.size := by rw [s5.1, s4.1, s3.1, s2.1, s1.1]
  have z5 : g5.get? z = some (zObj .ellipsis f TI TO) := s5.extBut _ _ D.TOz.symm (s4.extBut _ _ D.i2z.symm (s3.extBut _ _ D.TOz.symm (s2.extBut _ _ D.i1z.symm z1)))
  have k5 : ∀ c o, c ≠ z → c ≠ TO → c ≠ i1 → c ≠ i2 → s.heap.get? c = some o → g5.get? c = some o := fun c o c1 c2 c3 c4 e =>
    s5.extBut _ _ c2 (s4.extBut _ _ c4 (s3.extBut _ _ c2 (s2.extBut _ _ c3 (s1.extBut _ _ c1 e))))
  have e15 : g5.IsListIter i1 l1 (k + 1) := ((e1.extBut s3.extBut D.TOi1.symm).extBut s4.extBut D.i12).extBut s5.extBut D.TOi1.symm
  have e25 : g5.IsListIter i2 l2 (k + 1) := e2.extBut s5.extBut D.TOi2.symm
  have zlt : z < g5.objs.size := Heap.lt_size z5
  show wpAny _ _ (Builtin.SmallTypes.ownedTupleHandOut (.ref z) (.ref g5.objs.size) >>= _) _ _ _
  refine wpAny_bind ?_
  unfold Builtin.SmallTypes.ownedTupleHandOut
  have z6 : (g5.push { cls := .type "tuple", data := .seq #[x, y] }).get? z = some (zObj .ellipsis f TI TO) := Heap.get?_push_of_some _ z5
  refine wpAny_bind (wpAny_setField_rec z6 (by simp) fun g7 z7 s7 => ?_)
  replace z7 : g7.get? z = some (zObj (rawInt g5.objs.size) f TI TO) := z7
  refine wpAny_setField_rec z7 (by simp) fun g8 z8 s8 => ?_
  replace z8 : g8.get? z = some (zObj (rawInt g5.objs.size) false TI TO) := z8
  have up : ∀ c o, c ≠ z → g5.get? c = some o → g8.get? c = some o := fun c o c1 e => s8.extBut _ _ c1 (s7.extBut _ _ c1 (Heap.get?_push_of_some _ e))
  have t8 : IsPair g8 g5.objs.size x y := s8.extBut _ _ (Nat.ne_of_gt zlt) (s7.extBut _ _ (Nat.ne_of_gt zlt) (Heap.get?_push_size _ rfl))
  have n8 : g8.objs.size = g5.objs.size + 1 := by rw [s8.1, s7.1, Heap.size_push]
  rw [hsz] at z8 t8 n8
  refine wpAny_pure ⟨_, rfl, ?_⟩
  show Q (.ref g5.objs.size) _
  rw [hsz]
  exact hQ g8 z8 (up _ _ D.TOz o5) (e15.at fun o e => up _ o D.i1z e) (e25.at fun o e => up _ o D.i2z e) t8 n8 fun c o c1 c2 c3 c4 e => up c o c1 (k5 c o c1 c2 c3 c4 e)
theorem zip_end_may {z TI TO i1 i2 l1 l2 : Addr} {f0 : Value} {f : Bool} {k : Nat} {xs ys : Array Value} {a b : Value} {Q : Fin → Shared → Prop} (hh : A.handled = none) (D : ZipApart z TI TO i1 i2 l1 l2)
    (hz : s.heap.get? z = some (zObj f0 f TI TO)) (hm : MayWrite s.heap f0) (hTI : IsPair s.heap TI (.ref i1) (.ref i2)) (hTO : IsPair s.heap TO a b)
    (h1 : s.heap.IsListIter i1 l1 k) (h2 : s.heap.IsListIter i2 l2 k) (hl1 : s.heap.IsList l1 xs) (hl2 : s.heap.IsList l2 ys) (hend : xs[k]? = none ∨ ys[k]? = none)
    (hE : ∀ h' e, (∀ c o, c ≠ z → c ≠ TO → c ≠ i1 → c ≠ i2 → s.heap.get? c = some o → h'.get? c = some o) → (∃ o, h'.get? e = some o ∧ o.cls = .type "StopIteration") → E (.ref e) { s with heap := h' }) :
    wpAny (model prog w) A (Builtin.«zip.__next__» ⟨[.ref z], []⟩) Q E s := by
  show wpAny _ _ (field (.ref z) 2 >>= _) _ _ _
  refine wpAny_bind (wpAny_field hz rfl (x := .bool false) rfl ?_)
  show wpAny _ _ (field (.ref z) 3 >>= _) _ _ _
  refine wpAny_bind (wpAny_field hz rfl (x := .ref TI) rfl (wpAny_bind (wpAny_seqItems hTI rfl ?_)))
  show wpAny _ _ (Builtin.SmallTypes.ownedTupleIsFree (.ref z) >>= _) _ _ _
  refine wpAny_bind (zip_may hz hm ?_)
  simp only [if_true]
  refine wpAny_bind (wpAny_rule (wpAny_bind (wpAny_field hz rfl (x := .ref TO) rfl (wpAny_bind (wpAny_setField_rec hz (by simp) fun g1 z1 s1 => ?_)))))
  replace z1 : g1.get? z = some (zObj .ellipsis f TI TO) := z1
  refine wpAny_bind ?_
  simp only [List.zipIdx_cons, List.zipIdx_nil, List.forIn_cons, List.forIn_nil]
  refine wpAny_bind (wpAny_bind (wpAny_onRaise ?_))
  show wpAny _ _ (Builtin.SmallTypes.nextOf (.ref i1) >>= _) _ _ _
  have fin : ∀ (g : Heap) (e : Addr), g.get? z = some (zObj .ellipsis f TI TO) → (∃ o, g.get? e = some o ∧ o.cls = .type "StopIteration") → (∀ c o, c ≠ z → c ≠ TO → c ≠ i1 → c ≠ i2 → s.heap.get? c = some o → g.get? c = some o) →
      wpAny (model prog w) A (setField (.ref z) 0 .none) (fun _ => E (.ref e)) E { s with heap := g } := fun g e zg ⟨oe, he, hc⟩ hk => by
    have hez : e ≠ z := fun q => by subst q; rw [zg] at he; cases he; simp at hc
    exact wpAny_setField_rec zg (by simp) fun g' _ sg => hE g' e (fun c o c1 c2 c3 c4 q => sg.extBut _ _ c1 (hk c o c1 c2 c3 c4 q)) ⟨oe, sg.extBut _ _ hez he, hc⟩
  cases hx : xs[k]? with
  | none =>
    refine wpAny_bind (wpAny_nextOf_list_end hh (h1.extBut s1.extBut D.i1z) (hl1.extBut s1.extBut D.l1z) hx fun g2 e s2 he => ?_)
    exact fin g2 e (s2 _ _ D.i1z.symm z1) he fun c o c1 _ c3 _ q => s2 _ _ c3 (s1.extBut _ _ c1 q)
  | some x =>
    have hy : ys[k]? = none := by rcases hend with h | h; rw [hx] at h; cases h; exact h
    refine wpAny_bind (wpAny_nextOf_list_item (h1.extBut s1.extBut D.i1z) (hl1.extBut s1.extBut D.l1z) hx fun g2 e1 s2 => wpAny_pure ?_)
    have o2 : IsPair g2 TO a b := s2.extBut _ _ D.TOi1 (s1.extBut _ _ D.TOz hTO)
    refine wpAny_bind (wpAny_seqItems o2 rfl (wpAny_bind (wpAny_updateSeq_pair o2 fun g3 o3 s3 => ?_)))
    refine wpAny_bind (wpAny_letGo (wpAny_pure (wpAny_bind (wpAny_bind (wpAny_onRaise ?_)))))
    show wpAny _ _ (Builtin.SmallTypes.nextOf (.ref i2) >>= _) _ _ _
    refine wpAny_bind (wpAny_nextOf_list_end hh (((h2.extBut s1.extBut D.i2z).extBut s2.extBut D.i12.symm).extBut s3.extBut D.TOi2.symm)
      (((hl2.extBut s1.extBut D.l2z).extBut s2.extBut D.l2i1).extBut s3.extBut D.l2TO) hy fun g4 e s4 he => ?_)
    exact fin g4 e (s4 _ _ D.i2z.symm (s3.extBut _ _ D.TOz.symm (s2.extBut _ _ D.i1z.symm z1))) he fun c o c1 c2 c3 c4 q => s4 _ _ c4 (s3.extBut _ _ c2 (s2.extBut _ _ c3 (s1.extBut _ _ c1 q)))
/-- zip over two lists, k pairs told, whatever became of them -/
structure ZSt (z TI TO i1 i2 l1 l2 : Addr) (k : Nat) (h : Heap) : Prop where
  obj : ∃ (f0 : Value) (f : Bool), h.get? z = some (zObj f0 f TI TO) ∧ (f0 = .none ∨ ∃ T : Addr, f0 = rawInt T)
  ti : IsPair h TI (.ref i1) (.ref i2)
  to : ∃ a b, IsPair h TO a b
  i1 : h.IsListIter i1 l1 k
  i2 : h.IsListIter i2 l2 k
theorem ZSt.next {z TI TO i1 i2 l1 l2 : Addr} {k : Nat} {xs ys : Array Value} {x y : Value} {Q : Value → Shared → Prop} (D : ZipApart z TI TO i1 i2 l1 l2) (Z : ZSt z TI TO i1 i2 l1 l2 k s.heap)
    (hl1 : s.heap.IsList l1 xs) (hl2 : s.heap.IsList l2 ys) (hx : xs[k]? = some x) (hy : ys[k]? = some y)
    (hQ : ∀ h', ZSt z TI TO i1 i2 l1 l2 (k + 1) h' → IsPair h' s.heap.objs.size x y → h'.objs.size = s.heap.objs.size + 1 →
      (∀ c o, c ≠ z → c ≠ TO → c ≠ i1 → c ≠ i2 → s.heap.get? c = some o → h'.get? c = some o) → Q (.ref s.heap.objs.size) { s with heap := h' }) :
    wpAny (model prog w) A (Builtin.SmallTypes.nextOf (.ref z)) Q E s := by
  obtain ⟨⟨f0, f, hz, hf⟩, hTI, ⟨a, b, hTO⟩, h1, h2⟩ := Z
  have hTy : s.TypeIs (.ref z) "zip" := ⟨_, hz, rfl⟩
  unfold Builtin.SmallTypes.nextOf
  refine wpAny_bind (wpAny_callSpecial?_slot (name := Str.ofString "__next__") hTy F.slot_zip_next
    (wpAny_call_entry F.slot_zip_next hTy F.entry_zip_next ?_ (F.args_zip_next_1 _)))
  rcases hf with rfl | ⟨T, rfl⟩
  · exact zip_item_may D hz (.inl rfl) hTI hTO h1 h2 hl1 hl2 hx hy fun h' a1 a2 a3 a4 a5 a6 a7 => wpAny_pure (hQ h' ⟨⟨_, _, a1, .inr ⟨_, rfl⟩⟩, a7 _ _ D.TIz D.TITO D.TIi1 D.TIi2 hTI, ⟨_, _, a2⟩, a3, a4⟩ a5 a6 a7)
  · cases hT : s.heap.get? T with
    | none => exact zip_item_may D hz (.inr ⟨T, rfl, hT⟩) hTI hTO h1 h2 hl1 hl2 hx hy fun h' a1 a2 a3 a4 a5 a6 a7 => wpAny_pure (hQ h' ⟨⟨_, _, a1, .inr ⟨_, rfl⟩⟩, a7 _ _ D.TIz D.TITO D.TIi1 D.TIi2 hTI, ⟨_, _, a2⟩, a3, a4⟩ a5 a6 a7)
    | some oT =>
      exact zip_next_item_held D hz hT hTI h1 h2 hl1 hl2 hx hy fun h' a1 a3 a4 a5 a6 a7 =>
        wpAny_pure (hQ h' ⟨⟨_, _, a1, .inr ⟨_, rfl⟩⟩, a7 _ _ D.TIz D.TIi1 D.TIi2 hTI, ⟨_, _, a7 _ _ D.TOz D.TOi1 D.TOi2 hTO⟩, a3, a4⟩ a5 a6 fun c o c1 _ c3 c4 => a7 c o c1 c3 c4)
theorem ZSt.stop {z TI TO i1 i2 l1 l2 : Addr} {k : Nat} {xs ys : Array Value} {Q : Value → Shared → Prop} (hh : A.handled = none) (D : ZipApart z TI TO i1 i2 l1 l2) (Z : ZSt z TI TO i1 i2 l1 l2 k s.heap)
    (hl1 : s.heap.IsList l1 xs) (hl2 : s.heap.IsList l2 ys) (hend : xs[k]? = none ∨ ys[k]? = none)
    (hE : ∀ h' e, (∀ c o, c ≠ z → c ≠ TO → c ≠ i1 → c ≠ i2 → s.heap.get? c = some o → h'.get? c = some o) → (∃ o, h'.get? e = some o ∧ o.cls = .type "StopIteration") → E (.ref e) { s with heap := h' }) :
    wpAny (model prog w) A (Builtin.SmallTypes.nextOf (.ref z)) Q E s := by
  obtain ⟨⟨f0, f, hz, hf⟩, hTI, ⟨a, b, hTO⟩, h1, h2⟩ := Z
  have hTy : s.TypeIs (.ref z) "zip" := ⟨_, hz, rfl⟩
  unfold Builtin.SmallTypes.nextOf
  refine wpAny_bind (wpAny_callSpecial?_slot (name := Str.ofString "__next__") hTy F.slot_zip_next
    (wpAny_call_entry F.slot_zip_next hTy F.entry_zip_next ?_ (F.args_zip_next_1 _)))
  rcases hf with rfl | ⟨T, rfl⟩
  · exact zip_end_may hh D hz (.inl rfl) hTI hTO h1 h2 hl1 hl2 hend hE
  · cases hT : s.heap.get? T with
    | none => exact zip_end_may hh D hz (.inr ⟨T, rfl, hT⟩) hTI hTO h1 h2 hl1 hl2 hend hE
    | some oT => exact zip_next_end_held hh D hz hT hTI h1 h2 hl1 hl2 hend fun h' e hk => hE h' e fun c o c1 _ c3 c4 => hk c o c1 c3 c4
/-- one turn of enumerate over zip: first zip tells its pair (heap h1), then enumerate puts the count beside it (heap h2) -/
theorem enumzip_item {e z TI TO i1 i2 l1 l2 : Addr} {c : Int} {k : Nat} {xs ys : Array Value} {x y old : Value} {Q : Value → Shared → Prop} (D : ZipApart z TI TO i1 i2 l1 l2)
    (he : IsEnum s.heap e z c old) (hez : e ≠ z) (heO : e ≠ TO) (he1 : e ≠ i1) (he2 : e ≠ i2) (Z : ZSt z TI TO i1 i2 l1 l2 k s.heap)
    (hl1 : s.heap.IsList l1 xs) (hl2 : s.heap.IsList l2 ys) (hx : xs[k]? = some x) (hy : ys[k]? = some y)
    (hQ : ∀ h1 h2, ZSt z TI TO i1 i2 l1 l2 (k + 1) h1 → IsPair h1 s.heap.objs.size x y → h1.objs.size = s.heap.objs.size + 1 →
      (∀ b o, b ≠ z → b ≠ TO → b ≠ i1 → b ≠ i2 → s.heap.get? b = some o → h1.get? b = some o) →
      IsEnumOut h2 e z (c + 1) (.ref s.heap.objs.size) (s.heap.objs.size + 1) → IsPair h2 (s.heap.objs.size + 1) (.int c s.toks) (.ref s.heap.objs.size) → h2.objs.size = s.heap.objs.size + 2 →
      (∀ b o, b ≠ e → h1.get? b = some o → h2.get? b = some o) → Q (.ref (s.heap.objs.size + 1)) { s with heap := h2, toks := s.toks + 1 }) :
    wpAny (model prog w) A (Builtin.«enumerate.__next__» ⟨[.ref e], []⟩) (fun fin s' => ∃ v, fin = .done (.ret v) ∧ Q v s') E s := by
  obtain ⟨hp, g, d, tk, os⟩ := s
  show wpAny _ _ (field (.ref e) 2 >>= _) _ _ _
  refine wpAny_bind (wpAny_field he rfl (x := .ref z) rfl ?_)
  refine wpAny_bind (Z.next D hl1 hl2 hx hy fun g1 Z1 P1 n1 k1 => ?_)
  have hel : e < hp.objs.size := Heap.lt_size he
  have he1 : IsEnum g1 e z c old := k1 _ _ hez heO he1 he2 he
  show wpAny _ _ (field (.ref e) 3 >>= _) _ _ ⟨g1, g, d, tk, os⟩
  refine wpAny_bind (wpAny_field he1 rfl (x := rawInt c) rfl ?_)
  show wpAny _ _ (field (.ref e) 4 >>= _) _ _ ⟨g1, g, d, tk, os⟩
  refine wpAny_bind (wpAny_field he1 rfl (x := .none) rfl ?_)
  show wpAny _ _ (mkInt c >>= _) _ _ ⟨g1, g, d, tk, os⟩
  refine wpAny_bind (wpAny_mkInt ?_)
  show wpAny _ _ (setField (.ref e) 3 (rawInt (c + 1)) >>= _) _ _ ⟨g1, g, d, tk + 1, os⟩
  refine wpAny_bind (wpAny_setField_rec he1 (by simp) fun g2 e2 s2 => ?_)
  replace s2 : Heap.SameBut e g1 g2 := s2
  replace e2 : IsEnum g2 e z (c + 1) old := e2
  show wpAny _ _ (setField (.ref e) 4 .none >>= _) _ _ ⟨g2, g, d, tk + 1, os⟩
  refine wpAny_bind (wpAny_setField_rec e2 (by simp) fun g3 e3 s3 => ?_)
  replace s3 : Heap.SameBut e g2 g3 := s3
  replace e3 : IsEnum g3 e z (c + 1) old := e3
  show wpAny _ _ (newTuple [.int c tk, .ref hp.objs.size] >>= _) _ _ ⟨g3, g, d, tk + 1, os⟩
  refine wpAny_bind (wpAny_newTuple ?_)
  have e4 : IsEnum (g3.push { cls := .type "tuple", data := .seq #[.int c tk, .ref hp.objs.size] }) e z (c + 1) old := Heap.get?_push_of_some _ e3
  have n3 : g3.objs.size = hp.objs.size + 1 := by rw [s3.1, s2.1, n1]
  have t4 : (g3.push { cls := .type "tuple", data := .seq #[.int c tk, .ref hp.objs.size] }).get? (hp.objs.size + 1) = some { cls := .type "tuple", data := .seq #[.int c tk, .ref hp.objs.size] } := by rw [← n3]; exact Heap.get?_push_size _ rfl
  have n4 : (g3.push { cls := .type "tuple", data := .seq #[.int c tk, .ref hp.objs.size] }).objs.size = hp.objs.size + 2 := by rw [Heap.size_push, n3]
  have k4 : ∀ b o, b ≠ e → g1.get? b = some o → (g3.push { cls := .type "tuple", data := .seq #[.int c tk, .ref hp.objs.size] }).get? b = some o := fun b o hb q => Heap.get?_push_of_some _ (s3.extBut b o hb (s2.extBut b o hb q))
  generalize g3.push { cls := .type "tuple", data := .seq #[.int c tk, .ref hp.objs.size] } = g4 at e4 t4 n4 k4
  show wpAny _ _ (Builtin.SmallTypes.ownedTupleIsFree (.ref e) >>= _) _ _ ⟨g4, g, d, tk + 1, os⟩
  rw [n3]
  have hne : hp.objs.size + 1 ≠ e := Nat.ne_of_gt (Nat.lt_succ_of_lt hel)
  refine wpAny_bind ?_
  unfold Builtin.SmallTypes.ownedTupleIsFree
  refine wpAny_bind (wpAny_field e4 rfl (x := .none) rfl (wpAny_pure ?_))
  simp only [if_true]
  refine wpAny_bind (wpAny_rule (wpAny_bind (wpAny_field e4 rfl (x := old) rfl (wpAny_bind (wpAny_setField_rec e4 (by simp) fun g5 e5 s5 => ?_)))))
  replace s5 : Heap.SameBut e g4 g5 := s5
  replace e5 : IsEnum g5 e z (c + 1) (.ref hp.objs.size) := e5
  show wpAny _ _ (Builtin.SmallTypes.ownedTupleHandOut (.ref e) (.ref (hp.objs.size + 1)) >>= _) _ _ ⟨g5, g, d, tk + 1, os⟩
  refine wpAny_bind ?_
  unfold Builtin.SmallTypes.ownedTupleHandOut
  refine wpAny_bind (wpAny_setField_rec e5 (by simp) fun g6 e6 s6 => ?_)
  replace s6 : Heap.SameBut e g5 g6 := s6
  replace e6 : IsEnumOut g6 e z (c + 1) (.ref hp.objs.size) (hp.objs.size + 1) := e6
  refine wpAny_setField_rec e6 (by simp) fun g7 e7 s7 => ?_
  replace s7 : Heap.SameBut e g6 g7 := s7
  replace e7 : IsEnumOut g7 e z (c + 1) (.ref hp.objs.size) (hp.objs.size + 1) := e7
  have k7 : ∀ b o, b ≠ e → g4.get? b = some o → g7.get? b = some o := fun b o hb q => s7.extBut b o hb (s6.extBut b o hb (s5.extBut b o hb q))
  exact wpAny_bind (wpAny_letGo (wpAny_pure ⟨_, rfl, hQ g1 g7 Z1 P1 n1 k1 e7 (k7 _ _ hne t4) (by rw [s7.1, s6.1, s5.1, n4]) fun b o hb q => k7 b o hb (k4 b o hb q)⟩))
theorem enumzip_end {e z TI TO i1 i2 l1 l2 : Addr} {c : Int} {k : Nat} {xs ys : Array Value} {old : Value} {Q : Fin → Shared → Prop} (hh : A.handled = none) (D : ZipApart z TI TO i1 i2 l1 l2)
    (he : IsEnum s.heap e z c old) (Z : ZSt z TI TO i1 i2 l1 l2 k s.heap) (hl1 : s.heap.IsList l1 xs) (hl2 : s.heap.IsList l2 ys) (hend : xs[k]? = none ∨ ys[k]? = none)
    (hE : ∀ h' e, (∀ c o, c ≠ z → c ≠ TO → c ≠ i1 → c ≠ i2 → s.heap.get? c = some o → h'.get? c = some o) → (∃ o, h'.get? e = some o ∧ o.cls = .type "StopIteration") → E (.ref e) { s with heap := h' }) :
    wpAny (model prog w) A (Builtin.«enumerate.__next__» ⟨[.ref e], []⟩) Q E s := by
  show wpAny _ _ (field (.ref e) 2 >>= _) _ _ _
  refine wpAny_bind (wpAny_field he rfl (x := .ref z) rfl ?_)
  exact wpAny_bind (Z.stop hh D hl1 hl2 hend hE)
theorem next_enumzip {e z TI TO i1 i2 l1 l2 : Addr} {c : Int} {k : Nat} {xs ys : Array Value} {x y old : Value} {Q : Option Value → Shared → Prop} (D : ZipApart z TI TO i1 i2 l1 l2)
    (he : IsEnum s.heap e z c old) (hez : e ≠ z) (heO : e ≠ TO) (he1 : e ≠ i1) (he2 : e ≠ i2) (Z : ZSt z TI TO i1 i2 l1 l2 k s.heap)
    (hl1 : s.heap.IsList l1 xs) (hl2 : s.heap.IsList l2 ys) (hx : xs[k]? = some x) (hy : ys[k]? = some y)
    (hQ : ∀ h1 h2, ZSt z TI TO i1 i2 l1 l2 (k + 1) h1 → IsPair h1 s.heap.objs.size x y → h1.objs.size = s.heap.objs.size + 1 →
      (∀ b o, b ≠ z → b ≠ TO → b ≠ i1 → b ≠ i2 → s.heap.get? b = some o → h1.get? b = some o) →
      IsEnumOut h2 e z (c + 1) (.ref s.heap.objs.size) (s.heap.objs.size + 1) → IsPair h2 (s.heap.objs.size + 1) (.int c s.toks) (.ref s.heap.objs.size) → h2.objs.size = s.heap.objs.size + 2 →
      (∀ b o, b ≠ e → h1.get? b = some o → h2.get? b = some o) → Q (some (.ref (s.heap.objs.size + 1))) { s with heap := h2, toks := s.toks + 1 }) :
    wpAny (model prog w) A (pyNext (.ref e)) Q E s := by
  have hT : s.TypeIs (.ref e) "enumerate" := ⟨_, he, rfl⟩
  unfold pyNext
  exact wpAny_bind (wpAny_attempt (wpAny_callSpecial?_slot (name := Str.ofString "__next__") hT F.slot_enumerate_next
    (wpAny_call_entry F.slot_enumerate_next hT F.entry_enumerate_next
      (enumzip_item D he hez heO he1 he2 Z hl1 hl2 hx hy fun h1 h2 a b c d e f g h => wpAny_pure (hQ h1 h2 a b c d e f g h)) (F.args_enumerate_next_1 _))))
theorem end_enumzip {e z TI TO i1 i2 l1 l2 : Addr} {c : Int} {k : Nat} {xs ys : Array Value} {old : Value} {Q : Option Value → Shared → Prop} (hh : A.handled = none) (D : ZipApart z TI TO i1 i2 l1 l2)
    (he : IsEnum s.heap e z c old) (Z : ZSt z TI TO i1 i2 l1 l2 k s.heap) (hl1 : s.heap.IsList l1 xs) (hl2 : s.heap.IsList l2 ys) (hend : xs[k]? = none ∨ ys[k]? = none)
    (hQ : ∀ h', (∀ c o, c ≠ z → c ≠ TO → c ≠ i1 → c ≠ i2 → s.heap.get? c = some o → h'.get? c = some o) → Q none { s with heap := h' }) : wpAny (model prog w) A (pyNext (.ref e)) Q E s := by
  have hT : s.TypeIs (.ref e) "enumerate" := ⟨_, he, rfl⟩
  unfold pyNext
  refine wpAny_bind (wpAny_attempt (wpAny_callSpecial?_slot (name := Str.ofString "__next__") hT F.slot_enumerate_next
    (wpAny_call_entry F.slot_enumerate_next hT F.entry_enumerate_next (enumzip_end hh D he Z hl1 hl2 hend fun h' e hk he => ?_) (F.args_enumerate_next_1 _))))
  obtain ⟨o, ho, hc⟩ := he
  refine wpAny_bind (wpAny_isInstance (T := "StopIteration") (b := true) ⟨o, ho, hc⟩ isSubtype_stop ?_)
  exact wpAny_pure (hQ _ hk)
end
/-- the lists at a and b as they stand at each turn: the count, and beside it a new pair of the two items -/
def Itez (K : PySem.W.Frag) (a b : Addr) : It :=
  ⟨fun i H => ∃ (xs ys : List V) (x y : V), SqL K H a xs ∧ SqL K H b ys ∧ xs[i]? = some x ∧ ys[i]? = some y,
    fun i H v H' => ∃ T U x y, v = .ref U ∧ H T = none ∧ upd H T (.tup [x, y]) U = none ∧ H' = upd (upd H T (.tup [x, y])) U (.tup [.int (i : Nat), .ref T]) ∧ (∀ xs, SqL K H a xs → xs[i]? = some x) ∧ ∀ ys, SqL K H b ys → ys[i]? = some y,
    fun i H => ∃ xs ys : List V, SqL K H a xs ∧ SqL K H b ys ∧ (xs.length ≤ i ∨ ys.length ≤ i)⟩
theorem turn_enumzip {P : Program} {w : World} {K : PySem.W.Frag} {elts : List Expr} {kk : Nat} {tpos : Pos} {a b e z TI TO i1 i2 : Addr} (D : ZipApart z TI TO i1 i2 a b) (hez : e ≠ z) (heI : e ≠ TI) (heO : e ≠ TO) (he1 : e ≠ i1) (he2 : e ≠ i2) :
    Turn P w K (.Tuple elts kk tpos) (Itez K a b) [e, z, TI, TO, i1, i2] e (fun i h => (∃ old, IsEnum h e z ((i : Nat) : Int) old) ∧ ZSt z TI TO i1 i2 a b i h) where
  mem := by simp
  obj := fun i h st c hc => by
    obtain ⟨⟨old, he⟩, ⟨⟨f0, f, hz, _⟩, hTI, ⟨x, y, hTO⟩, ⟨o1, e1, _, d1⟩, ⟨o2, e2, _, d2⟩⟩⟩ := st
    have e' : c = e ∨ c = z ∨ c = TI ∨ c = TO ∨ c = i1 ∨ c = i2 := by simpa using hc
    rcases e' with q | q | q | q | q | q
    · rw [q]; exact ⟨_, he, fun v q => nomatch q⟩
    · rw [q]; exact ⟨_, hz, fun v q => nomatch q⟩
    · rw [q]; exact ⟨_, hTI, fun v q => nomatch q⟩
    · rw [q]; exact ⟨_, hTO, fun v q => nomatch q⟩
    · rw [q]; exact ⟨o1, e1, fun v q => by rw [d1] at q; cases q⟩
    · rw [q]; exact ⟨o2, e2, fun v q => by rw [d2] at q; cases q⟩
  keep := fun i h h' st k => by
    obtain ⟨⟨old, he⟩, ⟨⟨f0, f, hz, hf⟩, hTI, ⟨x, y, hTO⟩, h1, h2⟩⟩ := st
    exact ⟨⟨old, k e (by simp) _ he⟩, ⟨⟨f0, f, k z (by simp) _ hz, hf⟩, k TI (by simp) _ hTI, ⟨x, y, k TO (by simp) _ hTO⟩, h1.at fun o q => k i1 (by simp) o q, h2.at fun o q => k i2 (by simp) o q⟩⟩
  item := by
    intro X hP hw hK hc i pins s σ H E I hf st hg
    subst hP hw hK
    obtain ⟨⟨old, he⟩, Z⟩ := st
    obtain ⟨xs, ys, x, y, hqx, hqy, hx, hy⟩ := hg
    obtain ⟨its, rv, p, _⟩ := I.list hqx
    obtain ⟨its2, rv2, p2, _⟩ := I.list hqy
    obtain ⟨u, hu, ru⟩ := rv.get hx
    obtain ⟨u2, hu2, ru2⟩ := rv2.get hy
    have lt : ∀ c ∈ [e, z, TI, TO, i1, i2], c < s.heap.objs.size := fun c hc => by
      obtain ⟨⟨f0, f, hz, _⟩, hTI, ⟨x, y, hTO⟩, ⟨o1, e1, _, d1⟩, ⟨o2, e2, _, d2⟩⟩ := Z
      have e' : c = e ∨ c = z ∨ c = TI ∨ c = TO ∨ c = i1 ∨ c = i2 := by simpa using hc
      rcases e' with q | q | q | q | q | q <;> rw [q]
      · exact Heap.lt_size he
      · exact Heap.lt_size hz
      · exact Heap.lt_size hTI
      · exact Heap.lt_size hTO
      · exact Heap.lt_size e1
      · exact Heap.lt_size e2
    have hel := lt e (by simp)
    refine next_enumzip D he hez heO he1 he2 Z p.isList p2.isList (x := u) (y := u2) (by simpa using hu) (by simpa using hu2) fun g1 g2 Z1 P1 n1 k1 eo t2 n2 k2 => ?_
    refine ⟨_, rfl, wpAny_letOwnedTupleGo_enum (s := { s with heap := g2, toks := s.toks + 1 }) eo fun g3 e3 sb => ?_⟩
    have k3 : ∀ b o, b ≠ e → g1.get? b = some o → g3.get? b = some o := fun b o hb q => (sb.2 b hb).trans (k2 b o hb q)
    have new1 : ObjOk X.prog X.w (upd H s.heap.objs.size (.tup [x, y])) g1 s.heap.objs.size (.tup [x, y]) :=
      ⟨by show 2 ≤ sizeLine; decide, [u, u2], .cons ru (.cons ru2 .nil), ⟨_, P1, rfl, _, rfl⟩⟩
    have I1 : Inv X pins σ (upd H s.heap.objs.size (.tup [x, y])) { s with heap := g1 } :=
      I.turnedNew (t' := s.toks) (ch := [e, z, TI, TO, i1, i2]) (fun c o hb q => k1 c o (fun z => hb (by simp [z])) (fun z => hb (by simp [z])) (fun z => hb (by simp [z])) (fun z => hb (by simp [z])) q) hf (Nat.le_refl _) new1
    have hf1 : ∀ b ∈ [e, z, TI, TO, i1, i2], FpOk X pins (upd H s.heap.objs.size (.tup [x, y])) b := fun b hb => by
      obtain ⟨q1, q2⟩ := hf b hb
      exact ⟨by rw [upd_ne (Nat.ne_of_lt (lt b hb))]; exact q1, q2⟩
    have t3 : g3.get? (s.heap.objs.size + 1) = some { cls := .type "tuple", data := .seq #[.int ((i : Nat) : Int) s.toks, .ref s.heap.objs.size] } := (sb.2 _ (Nat.ne_of_gt (Nat.lt_succ_of_lt hel))).trans t2
    have new2 : ObjOk X.prog X.w (upd (upd H s.heap.objs.size (.tup [x, y])) (s.heap.objs.size + 1) (.tup [.int (i : Nat), .ref s.heap.objs.size])) g3 (s.heap.objs.size + 1) (.tup [.int (i : Nat), .ref s.heap.objs.size]) :=
      ⟨by show 2 ≤ sizeLine; decide, [.int i s.toks, .ref s.heap.objs.size], .cons ⟨_, rfl⟩ (.cons rfl .nil), ⟨_, t3, rfl, _, rfl⟩⟩
    have I2 : Inv X pins σ (upd (upd H s.heap.objs.size (.tup [x, y])) (s.heap.objs.size + 1) (.tup [.int (i : Nat), .ref s.heap.objs.size])) { s with heap := g3, toks := s.toks + 1 } :=
      I1.turnedNew (t' := s.toks + 1) (ch := [e, z, TI, TO, i1, i2]) (fun c o hb q => k3 c o (fun z => hb (by simp [z])) q) hf1 (by show g1.objs.size ≤ _; rw [n1]; exact Nat.le_refl _) new2
    refine ⟨.ref (s.heap.objs.size + 1), _, I2, rfl, ⟨s.heap.objs.size, s.heap.objs.size + 1, x, y, rfl, I.hok.fresh (Nat.le_refl _), ?_, rfl, fun l hl => by rw [I.list_inj hl hqx]; exact hx, fun l hl => by rw [I.list_inj hl hqy]; exact hy⟩, ⟨⟨.ref s.heap.objs.size, ?_⟩, ?_⟩, fun b hb => ?_⟩
    · rw [upd_ne (Nat.succ_ne_self _)]
      exact I.hok.fresh (Nat.le_succ _)
    · rw [show ((i + 1 : Nat) : Int) = (i : Int) + 1 by omega]
      exact e3
    · obtain ⟨⟨f0, f, hz, hf⟩, hTI, ⟨x0, y0, hTO⟩, h1, h2⟩ := Z1
      exact ⟨⟨f0, f, k3 _ _ hez.symm hz, hf⟩, k3 _ _ heI.symm hTI, ⟨x0, y0, k3 _ _ heO.symm hTO⟩, h1.at fun o q => k3 _ o he1.symm q, h2.at fun o q => k3 _ o he2.symm q⟩
    · rw [upd_ne (Nat.ne_of_lt (Nat.lt_succ_of_lt (lt b hb)))]
      exact (hf1 b hb).1
  done := by
    intro X hP hw hK hc i pins s σ H E I hf st hg
    subst hP hw hK
    obtain ⟨⟨old, he⟩, Z⟩ := st
    obtain ⟨xs, ys, hqx, hqy, hend⟩ := hg
    obtain ⟨its, rv, p, _⟩ := I.list hqx
    obtain ⟨its2, rv2, p2, _⟩ := I.list hqy
    have l1 := rv.length
    have l2 := rv2.length
    have he' : its.toArray[i]? = none ∨ its2.toArray[i]? = none := by
      rcases hend with q | q
      · exact .inl (by simp; omega)
      · exact .inr (by simp; omega)
    exact end_enumzip (I.ok.hd hc) D he Z p.isList p2.isList he' fun h' hk => ⟨rfl, I.turnedL (t' := s.toks) (ch := [e, z, TI, TO, i1, i2]) (fun c o hb q =>
      hk c o (fun q' => hb (by simp [q'])) (fun q' => hb (by simp [q'])) (fun q' => hb (by simp [q'])) (fun q' => hb (by simp [q'])) q) hf⟩
  self := fun A i s Q E st h => let ⟨⟨_, he⟩, _⟩ := st; wpAny_pyIter_enum he h
section
open AutoSeq1 (wpAny_loadPart')
theorem meets_enumerate_newZ (z TI TO : Addr) :
    Meets (Builtin.«enumerate.__new__» ⟨[.type "enumerate", .ref z], []⟩) (fun _ R s => s.heap.get? z = some (zObj .none false TI TO) ∧
      R (.ok (.ret (.ref s.heap.objs.size))) { s with heap := s.heap.push { cls := .type "enumerate", data := .fields #[.none, .bool false, .ref z, rawInt 0, .none, .none] } }) :=
  .of_wp fun prog w A R s h => by
    obtain ⟨hp, g, d, tk, os⟩ := s; obtain ⟨hl, h⟩ := h
    have hsub := sub_enumerate
    have hL : IsZip (Shared.heap ⟨hp, g, d, tk, os⟩) z TI TO .none := hl
    wp_walk using wpAny_loadPart' hl
    refine wpAny_stack_any fun st => wpAny_pure ?_
    split
    · rename_i c _ _ _ _ _
      cases (c == Value.type "enumerate")
      · wp_walk using wpAny_loadPart' hl, wpAny_pyIter_zip hL
        exact ⟨_, rfl, h⟩
      · wp_walk using wpAny_loadPart' hl, wpAny_pyIter_zip hL
        exact ⟨_, rfl, h⟩
    · wp_walk using wpAny_loadPart' hl, wpAny_pyIter_zip hL
      exact ⟨_, rfl, h⟩
end
section
variable {prog : Program} {w : World} {A : Around} {E : Value → Shared → Prop} {s : Shared}
theorem call_enumerate_zip {z TI TO : Addr} {Q : Value → Shared → Prop} (hz : IsZip s.heap z TI TO .none)
    (h : ∀ h', IsEnum h' s.heap.objs.size z 0 .none → h'.objs.size = s.heap.objs.size + 1 → (∀ b o, s.heap.get? b = some o → h'.get? b = some o) → Q (.ref s.heap.objs.size) { s with heap := h' }) :
    wpAny (model prog w) A (call (.type "enumerate") [.ref z]) Q E s := by
  refine callType_new F.called_enumerate (by decide) (F.typeCall_enumerate_1 _) (F.newCall_enumerate_1 _) (fun obj => F.args_object_init_2 obj _) F.entry_enumerate_new
    (meets_enumerate_newZ z TI TO) ⟨hz, ?_⟩
  have he : IsEnum (s.heap.push { cls := .type "enumerate", data := .fields #[.none, .bool false, .ref z, rawInt 0, .none, .none] }) s.heap.objs.size z 0 .none := Heap.get?_push_size _ rfl
  exact ⟨⟨_, he, rfl⟩, h _ he (Heap.size_push ..) fun b o x => Heap.get?_push_of_some _ x⟩
end
def iEnumZip (K : PySem.W.Frag) (ta : TA) : TI := fun σ H R => ta σ H fun vs H1 => ∃ a b xs ys, vs = [.ref a, .ref b] ∧ SqL K H1 a xs ∧ SqL K H1 b ys ∧ R (Itez K a b) H1
theorem pi_enumzip {X : Cx} {e e2 : Expr} {ta : TA} {p pz pos posz tpos : Pos} {elts : List Expr} {kk : Nat} (hg : Gl X "enumerate") (hm : X.mg "enumerate" = none) (hgz : Gl X "zip") (hmz : X.mg "zip" = none) (ha : PA X [e, e2] ta)
    (hs : starEach [e, e2] X.env = (false, eval e X.env) :: starEach [e2] X.env := by rfl) (hpl : (backTo posz (starEach [e2] X.env)).any (·.1) = false := by rfl)
    (hs1 : starEach [Expr.Call (.Name "zip" pz) [e, e2] [] posz] X.env = [(false, eval (.Call (.Name "zip" pz) [e, e2] [] posz) X.env)] := by rfl) :
    PI X (.Tuple elts kk tpos) (.Call (.Name "enumerate" p) [.Call (.Name "zip" pz) [e, e2] [] posz] [] pos) (iEnumZip X.K ta) := by
  refine ⟨fun pins s σ H R I h => ?_⟩
  refine Call_ (ld_blt I hg hm boot_enumerate (PyProof.Rows.callWith_type1 ?_ hs1 rfl))
  rw [hs1]
  show wpAny _ _ (spliced ((false, eval (.Call (.Name "zip" pz) [e, e2] [] posz) X.env) :: [])) _ _ s
  refine Calls.spliced_cons (Call_ (ld_blt I hgz hmz PyProof.Rows.boot_zip (PyProof.Rows.callWith_type1 (thn (ha.run posz pins s σ H _ I h) fun us s1 ⟨vs, H1, I1, r1, q1⟩ => ?_) hs hpl)))
  obtain ⟨a, b, xs, ys, ex, hqx, hqy, q⟩ := q1
  subst ex
  cases r1 with
  | cons r rr =>
  cases rr with
  | cons r' rr =>
  cases rr
  cases r
  cases r'
  obtain ⟨its, rv, p1, _⟩ := I1.list hqx
  obtain ⟨its2, rv2, p2, _⟩ := I1.list hqy
  have la : a < s1.heap.objs.size := p1.lt
  have lb : b < s1.heap.objs.size := p2.lt
  refine call_zip_2 p1.isList p2.isList fun h' hz hTI hTO h1 h2 hsz hk => Calls.spliced_nil ?_
  refine call_enumerate_zip hz fun h2' he hsz2 hk2 => wpAny_pyIter_enum he ?_
  have D := PySem.W.ktu_apart s1.heap.objs.size a b la lb
  have I2 : Inv X pins σ H1 { s1 with heap := h2' } := I1.kept (t' := s1.toks) fun b o q => hk2 b o (hk b o q)
  have hsz : h'.objs.size = s1.heap.objs.size + 5 := hsz
  have N : ∀ {j : Nat}, j < 5 → h'.objs.size ≠ s1.heap.objs.size + j := fun hj => by rw [hsz]; exact Nat.ne_of_gt (Nat.add_lt_add_left hj _)
  refine ⟨h'.objs.size, [h'.objs.size, s1.heap.objs.size + 4, s1.heap.objs.size + 2, s1.heap.objs.size + 3, s1.heap.objs.size, s1.heap.objs.size + 1], _, _, H1, rfl, I2,
    turn_enumzip D (N (j := 4) (by decide)) (N (j := 2) (by decide)) (N (j := 3) (by decide)) (N (j := 0) (by decide)) (N (j := 1) (by decide)), ⟨⟨.none, he⟩, ⟨⟨.none, false, hk2 _ _ hz, .inl rfl⟩, hk2 _ _ hTI, ⟨_, _, hk2 _ _ hTO⟩, h1.at fun o q => hk2 _ o q, h2.at fun o q => hk2 _ o q⟩⟩, fun c hcm => ?_, q⟩
  have e' : c = h'.objs.size ∨ c = s1.heap.objs.size + 4 ∨ c = s1.heap.objs.size + 2 ∨ c = s1.heap.objs.size + 3 ∨ c = s1.heap.objs.size ∨ c = s1.heap.objs.size + 1 := by simpa using hcm
  have hle : s1.heap.objs.size ≤ c := by
    rcases e' with z | z | z | z | z | z <;> rw [z]
    · rw [hsz]; exact Nat.le_add_right _ _
    · exact Nat.le_add_right _ _
    · exact Nat.le_add_right _ _
    · exact Nat.le_add_right _ _
    · exact Nat.le_refl _
    · exact Nat.le_add_right _ _
  exact I1.fpOk hle (I1.hok.fresh hle)
/-- the count and a new pair of the i-th of both -/
def YEz (xs ys : Nat → Option V) : Nat → Hp → V → Hp → Prop := fun i H v H' => ∃ T U x y, v = .ref U ∧ H T = none ∧ upd H T (.tup [x, y]) U = none ∧ H' = upd (upd H T (.tup [x, y])) U (.tup [.int (i : Nat), .ref T]) ∧ xs i = some x ∧ ys i = some y
theorem walk_enumzip {K : PySem.W.Frag} {a b : Addr} {xs ys : List V} {n : Nat} (hn : n = min xs.length ys.length) : Walk (Itez K a b) n (fun H => SqL K H a xs ∧ SqL K H b ys) (YEz (fun i => xs[i]?) (fun i => ys[i]?)) := by
  subst hn
  refine ⟨fun i _ hi q => ?_, fun _ q => ⟨xs, ys, q.1, q.2, by omega⟩, fun i H v H' _ q y => ?_⟩
  · have h1 : i < xs.length := by omega
    have h2 : i < ys.length := by omega
    exact ⟨xs, ys, xs[i], ys[i], q.1, q.2, by simp [h1], by simp [h2]⟩
  · obtain ⟨T, U, x, y, h1, h2, h3, h4, h5, h6⟩ := y
    exact ⟨T, U, x, y, h1, h2, h3, h4, h5 xs q.1, h6 ys q.2⟩
def rEnumZip (K : PySem.W.Frag) (vs : List V) (H : Hp) (R : It → Hp → Prop) : Prop := ∃ a b xs ys, vs = [.ref a, .ref b] ∧ SqL K H a xs ∧ SqL K H b ys ∧ R (Itez K a b) H
theorem iEnumZip_eq {K : PySem.W.Frag} {ta : TA} {σ : L2.St} {H : Hp} {R : It → Hp → Prop} : iEnumZip K ta σ H R = ta σ H fun vs H1 => rEnumZip K vs H1 R := rfl
theorem rEnumZip_r {K : PySem.W.Frag} {a b : Addr} {H : Hp} {R : It → Hp → Prop} : rEnumZip K [.ref a, .ref b] H R = ∃ xs ys, SqL K H a xs ∧ SqL K H b ys ∧ R (Itez K a b) H := propext ⟨fun ⟨_, _, xs, ys, e, h⟩ => by cases e; exact ⟨xs, ys, h⟩, fun ⟨xs, ys, h⟩ => ⟨a, b, xs, ys, rfl, h⟩⟩
end Bk

namespace Bk
open PySem PySem.Spec PyProof.Rows L2
open C8 (Met pe_mt pe_mt0)
/-! ### a ledger: what stands beside its own three lists -/
def but (S : List Addr) (H : Hp) : Hp := fun b => if b ∈ S then none else H b
theorem but_at {S : List Addr} {H : Hp} {b : Addr} {o : HO} (h : b ∉ S) (e : H b = some o) : but S H b = some o := by
  unfold but
  rw [if_neg h]
  exact e
theorem but_is {S : List Addr} {H : Hp} {b : Addr} {o : HO} (e : but S H b = some o) : b ∉ S ∧ H b = some o := by
  unfold but at e
  split at e
  · cases e
  · rename_i h
    exact ⟨h, e⟩
theorem but_same (S : List Addr) (H : Hp) : Same (but S H) H := fun b o e => (but_is e).2
theorem but_mono {S : List Addr} {H H' : Hp} (s : Same H H') : Same (but S H) (but S H') := fun b o e => but_at (but_is e).1 (s _ _ (but_is e).2)
theorem but_upd {S : List Addr} {H : Hp} {a : Addr} {o : HO} (h : a ∈ S) : but S (upd H a o) = but S H := by
  funext b
  unfold but
  by_cases hb : b ∈ S
  · rw [if_pos hb, if_pos hb]
  · rw [if_neg hb, if_neg hb, upd_ne (fun z => hb (by rw [z]; exact h))]
/-! ### the fields -/
def lf (L D E : Addr) (life : V) : List (Str × V) := [("lights", .ref L), ("days", .ref D), ("life", life), ("deeds", .ref E)]
theorem sne1 : (("days" : Str) == "lights") = false := by decide +kernel
theorem sne2 : (("life" : Str) == "lights") = false := by decide +kernel
theorem sne3 : (("life" : Str) == "days") = false := by decide +kernel
theorem sne4 : (("deeds" : Str) == "lights") = false := by decide +kernel
theorem sne5 : (("deeds" : Str) == "days") = false := by decide +kernel
theorem sne6 : (("deeds" : Str) == "life") = false := by decide +kernel
theorem lf_lights {L D E : Addr} {l : V} : (lf L D E l).lookup ("lights" : Str) = some (.ref L) := by
  unfold lf; simp only [List.lookup, beq_self_eq_true]
theorem lf_days {L D E : Addr} {l : V} : (lf L D E l).lookup ("days" : Str) = some (.ref D) := by
  unfold lf; simp only [List.lookup, sne1, beq_self_eq_true]
theorem lf_life {L D E : Addr} {l : V} : (lf L D E l).lookup ("life" : Str) = some l := by
  unfold lf; simp only [List.lookup, sne2, sne3, beq_self_eq_true]
theorem lf_deeds {L D E : Addr} {l : V} : (lf L D E l).lookup ("deeds" : Str) = some (.ref E) := by
  unfold lf; simp only [List.lookup, sne4, sne5, sne6, beq_self_eq_true]
theorem lf_no {L D E : Addr} {l : V} {m : Str} (h1 : (m == "lights") = false) (h2 : (m == "days") = false) (h3 : (m == "life") = false) (h4 : (m == "deeds") = false) : (lf L D E l).lookup m = none := by
  unfold lf; simp only [List.lookup, h1, h2, h3, h4]
/-! ### deeds -/
abbrev Deed := Option (Nat × Str × Option Int)
def Dd (H : Hp) (v : V) : Deed → Prop
  | none => v = .non
  | some (a, s, o) => ∃ t, v = .ref t ∧ H t = some (.tup [.int (a : Int), .str s, optV o])
theorem Dd.same {H H' : Hp} {v : V} {d : Deed} (s : Same (tupsOf H) (tupsOf H')) (h : Dd H v d) : Dd H' v d := by
  match d, h with
  | none, h => exact h
  | some (a, z, o), ⟨t, e, h⟩ => exact ⟨t, e, (tupsOf_is (s _ _ (tupsOf_at h))).1⟩
inductive Dds (H : Hp) : List V → List Deed → Prop
  | nil : Dds H [] []
  | cons {v : V} {d : Deed} {vs : List V} {ds : List Deed} : Dd H v d → Dds H vs ds → Dds H (v :: vs) (d :: ds)
theorem Dds.same {H H' : Hp} (s : Same (tupsOf H) (tupsOf H')) : ∀ {vs : List V} {ds : List Deed}, Dds H vs ds → Dds H' vs ds
  | _, _, .nil => .nil
  | _, _, .cons h t => .cons (h.same s) (Dds.same s t)
theorem Dds.length {H : Hp} : ∀ {vs : List V} {ds : List Deed}, Dds H vs ds → vs.length = ds.length
  | _, _, .nil => rfl
  | _, _, .cons _ t => by rw [List.length_cons, List.length_cons, Dds.length t]
theorem Dds.snoc {H : Hp} {v : V} {d : Deed} : ∀ {vs : List V} {ds : List Deed}, Dds H vs ds → Dd H v d → Dds H (vs ++ [v]) (ds ++ [d])
  | _, _, .nil, h => .cons h .nil
  | _, _, .cons g t, h => .cons g (Dds.snoc t h)
/-- the last deed, and those ahead of it -/
theorem Dds.last {H : Hp} : ∀ {vs : List V} {ds : List Deed} {d : Deed}, Dds H vs (ds ++ [d]) → ∃ us v, vs = us ++ [v] ∧ Dds H us ds ∧ Dd H v d
  | vs, [], d, h0 => by
    have h : Dds H vs ([d] : List Deed) := h0
    cases h with
    | cons hd t => cases t; exact ⟨[], _, rfl, .nil, hd⟩
  | vs, e :: ds, d, h0 => by
    have h : Dds H vs (e :: (ds ++ [d])) := h0
    cases h with
    | cons hd t =>
      obtain ⟨us, v, rfl, h1, h2⟩ := Dds.last t
      exact ⟨_ :: us, v, rfl, .cons hd h1, h2⟩
structure Led (C : Addr) (H : Hp) (p L D E : Addr) (ls : List Int) (g : Good) (ds : List Deed) : Prop where
  obj : ∃ dx, H p = some (.ins C dx (lf L D E (optV g.life)))
  li : H L = some (.lst (ls.map V.int))
  da : ∃ xs, H D = some (.lst xs) ∧ TkAll (tupsOf H) xs (g.days.map dayD)
  de : ∃ ws, H E = some (.lst ws) ∧ Dds H ws ds
  ok : bakB (bakD ⟨ls, none, [g]⟩) = true
  ld : L ≠ D
  le : L ≠ E
  dE : D ≠ E
theorem Led.same {C p L D E : Addr} {H H' : Hp} {ls : List Int} {g : Good} {ds : List Deed} (h : Led C H p L D E ls g ds) (s : Same H H') : Led C H' p L D E ls g ds := by
  obtain ⟨⟨dx, ho⟩, hl, ⟨xs, hd, ht⟩, ⟨ws, he, hw⟩, ok, a, b, c⟩ := h
  exact ⟨⟨dx, s _ _ ho⟩, s _ _ hl, ⟨xs, s _ _ hd, ht.same (tupsOf_mono s)⟩, ⟨ws, s _ _ he, hw.same (tupsOf_mono s)⟩, ok, a, b, c⟩
section
variable {C p L D E : Addr} {H : Hp} {ls : List Int} {g : Good} {ds : List Deed}
theorem Led.not_new (h : Led C H p L D E ls g ds) {q : Addr} (hq : H q = none) : q ∉ [L, D, E] := fun hm => by
  obtain ⟨_, hl, ⟨xs, hd, _⟩, ⟨ws, he, _⟩, _⟩ := h
  simp only [List.mem_cons, List.not_mem_nil, or_false] at hm
  rcases hm with rfl | rfl | rfl
  · rw [hl] at hq; cases hq
  · rw [hd] at hq; cases hq
  · rw [he] at hq; cases hq
theorem Led.not_tup (h : Led C H p L D E ls g ds) {q : Addr} {xs : List V} (hq : H q = some (.tup xs)) : q ∉ [L, D, E] := fun hm => by
  obtain ⟨_, hl, ⟨xs, hd, _⟩, ⟨ws, he, _⟩, _⟩ := h
  simp only [List.mem_cons, List.not_mem_nil, or_false] at hm
  rcases hm with rfl | rfl | rfl
  · rw [hl] at hq; cases hq
  · rw [hd] at hq; cases hq
  · rw [he] at hq; cases hq
theorem Led.light (h : Led C H p L D E ls g ds) {i : Nat} {z : Int} (hz : numD (.int z) = true) : Led C (upd H L (.lst ((ls.set i z).map V.int))) p L D E (ls.set i z) g ds := by
  obtain ⟨⟨dx, ho⟩, hl, ⟨xs, hd, ht⟩, ⟨ws, he, hw⟩, ok, a, b, c⟩ := h
  have st := tupsOf_upd (o := .lst ((ls.set i z).map V.int)) hl
  refine ⟨⟨dx, by rw [upd_ne (fun q => by rw [q, hl] at ho; cases ho)]; exact ho⟩, upd_same, ⟨xs, by rw [upd_ne a.symm]; exact hd, ht.same st⟩, ⟨ws, by rw [upd_ne b.symm]; exact he, hw.same st⟩, ?_, a, b, c⟩
  obtain ⟨⟨c1, c2⟩, c3, c4, ⟨c5, c6⟩, c7⟩ := bak_parts ok
  refine bakB_mk (by rw [List.length_set]; exact c1) (by rw [List.length_set]; exact c2) (fun y hy => ?_) c4 c5 c6 (fun g' hg' => ?_)
  · rcases List.mem_or_eq_of_mem_set hy with hy | rfl
    · exact c3 y hy
    · exact hz
  · rw [List.length_set]
    exact c7 g' hg'
def setG (g : Good) (i : Nat) (d : Day) : Good := ⟨g.days.set i d, g.life⟩
theorem Led.day (h : Led C H p L D E ls g ds) {i : Nat} {t : Addr} {d : Day} {xs : List V} (hx : H D = some (.lst xs)) (ht : H t = some (.tup [.int d.want, .int d.loaf, .int d.keep, optV d.fine])) (hz : dayB (dayD d) = true) : Led C (upd H D (.lst (xs.set i (.ref t)))) p L D E ls (setG g i d) ds := by
  obtain ⟨⟨dx, ho⟩, hl, ⟨xs', hd, htk⟩, ⟨ws, he, hw⟩, ok, a, b, c⟩ := h
  rw [hd] at hx
  cases hx
  have st := tupsOf_upd (o := .lst (xs.set i (.ref t))) hd
  have hday : Tk (tupsOf H) (.ref t) (dayD d) := .tup (tupsOf_at ht) (.cons (.int _) (.cons (.int _) (.cons (.int _) (.cons (Tk.optV _) .nil))))
  refine ⟨⟨dx, by rw [upd_ne (fun q => by rw [q, hd] at ho; cases ho)]; exact ho⟩, by rw [upd_ne a]; exact hl, ⟨_, upd_same, ?_⟩, ⟨ws, by rw [upd_ne c.symm]; exact he, hw.same st⟩, ?_, a, b, c⟩
  · have := (TkAll.setAt (i := i) htk hday).same st
    show TkAll _ _ ((g.days.set i d).map dayD)
    rw [List.map_set]
    exact this
  · obtain ⟨⟨c1, c2⟩, c3, c4, ⟨c5, c6⟩, c7⟩ := bak_parts ok
    refine bakB_mk c1 c2 c3 c4 (Nat.le_refl _) (by show 1 ≤ 2; decide) (fun g' hg' => ?_)
    rw [List.mem_singleton.mp hg']
    obtain ⟨k1, k2, k3⟩ := c7 g List.mem_cons_self
    refine ⟨by show (g.days.set i d).length = _; rw [List.length_set]; exact k1, k2, fun y hy => ?_⟩
    have hy : y ∈ g.days.set i d := hy
    rcases List.mem_or_eq_of_mem_set hy with hy | rfl
    · exact k3 y hy
    · exact hz
theorem Led.push (h : Led C H p L D E ls g ds) {w : V} {d : Deed} {ws : List V} (hx : H E = some (.lst ws)) (hw : Dd H w d) : Led C (upd H E (.lst (ws ++ [w]))) p L D E ls g (ds ++ [d]) := by
  obtain ⟨⟨dx, ho⟩, hl, ⟨xs, hd, ht⟩, ⟨ws', he, hws⟩, ok, a, b, c⟩ := h
  rw [he] at hx
  cases hx
  have st := tupsOf_upd (o := .lst (ws ++ [w])) he
  exact ⟨⟨dx, by rw [upd_ne (fun q => by rw [q, he] at ho; cases ho)]; exact ho⟩, by rw [upd_ne b]; exact hl, ⟨xs, by rw [upd_ne c]; exact hd, ht.same st⟩, ⟨_, upd_same, (hws.snoc hw).same st⟩, ok, a, b, c⟩
theorem Led.pop (h : Led C H p L D E ls g (ds ++ [d])) : ∃ us v, H E = some (.lst (us ++ [v])) ∧ Dd H v d ∧ Led C (upd H E (.lst us)) p L D E ls g ds := by
  obtain ⟨⟨dx, ho⟩, hl, ⟨xs, hd, ht⟩, ⟨ws', he, hws⟩, ok, a, b, c⟩ := h
  obtain ⟨us, v, rfl, h1, h2⟩ := hws.last
  have st := tupsOf_upd (o := .lst us) he
  exact ⟨us, v, he, h2, ⟨dx, by rw [upd_ne (fun q => by rw [q, he] at ho; cases ho)]; exact ho⟩, by rw [upd_ne b]; exact hl, ⟨xs, by rw [upd_ne c]; exact hd, ht.same st⟩, ⟨_, upd_same, h1.same st⟩, ok, a, b, c⟩
end
/-! ### reading its fields, calling its methods -/
structure LTxt (K : PySem.W.Frag) (C : Addr) : Prop where
  cl : Cls K C
  nL : NoAttr K C "lights"
  nD : NoAttr K C "days"
  nF : NoAttr K C "life"
  nE : NoAttr K C "deeds"
def rFld (K : PySem.W.Frag) (f : Str) (x : V) (H : Hp) (Q : VK) : Prop := ∃ a C dx fs v, x = .ref a ∧ H a = some (.ins C dx fs) ∧ Cls K C ∧ NoAttr K C f ∧ fs.lookup f = some v ∧ Q v H
theorem tFld_eq {K : PySem.W.Frag} {ta : TE} {f : Str} {σ : L2.St} {H : Hp} {Q : VK} : tFld K ta f σ H Q = ta σ H fun x H1 => rFld K f x H1 Q := rfl
def IsObj (C : Addr) (m : Str) (x : V) (H : Hp) : Prop := ∃ a dx fs, x = .ref a ∧ H a = some (.ins C dx fs) ∧ fs.lookup m = none
theorem tMeth_eq {C : Addr} {m : Str} {sp : Sp} {dvs : List V} {E : XK} {ta : TE} {t : TA} {σ : L2.St} {H : Hp} {Q : VK} : tMeth C m sp dvs E ta t σ H Q = ta σ H fun x H1 => IsObj C m x H1 ∧ t σ H1 fun vs H2 => sp (x :: (vs ++ dvs)) H2 Q E := by
  unfold tMeth IsObj
  congr 1
  funext x H1
  exact propext ⟨fun ⟨a, dx, fs, h1, h2, h3, h4⟩ => ⟨⟨a, dx, fs, h1, h2, h3⟩, h4⟩, fun ⟨⟨a, dx, fs, h1, h2, h3⟩, h4⟩ => ⟨a, dx, fs, h1, h2, h3, h4⟩⟩
section
variable {K : PySem.W.Frag} {C p L D E : Addr} {H : Hp} {ls : List Int} {g : Good} {ds : List Deed} {Q : VK}
theorem Led.fLights (h : Led C H p L D E ls g ds) (T : LTxt K C) (q : Q (.ref L) H) : rFld K "lights" (.ref p) H Q := let ⟨dx, ho⟩ := h.obj; ⟨_, _, dx, _, _, rfl, ho, T.cl, T.nL, lf_lights, q⟩
theorem Led.fDays (h : Led C H p L D E ls g ds) (T : LTxt K C) (q : Q (.ref D) H) : rFld K "days" (.ref p) H Q := let ⟨dx, ho⟩ := h.obj; ⟨_, _, dx, _, _, rfl, ho, T.cl, T.nD, lf_days, q⟩
theorem Led.fLife (h : Led C H p L D E ls g ds) (T : LTxt K C) (q : Q (optV g.life) H) : rFld K "life" (.ref p) H Q := let ⟨dx, ho⟩ := h.obj; ⟨_, _, dx, _, _, rfl, ho, T.cl, T.nF, lf_life, q⟩
theorem Led.fDeeds (h : Led C H p L D E ls g ds) (T : LTxt K C) (q : Q (.ref E) H) : rFld K "deeds" (.ref p) H Q := let ⟨dx, ho⟩ := h.obj; ⟨_, _, dx, _, _, rfl, ho, T.cl, T.nE, lf_deeds, q⟩
theorem Led.isObj (h : Led C H p L D E ls g ds) {m : Str} (h1 : (m == "lights") = false := by decide +kernel) (h2 : (m == "days") = false := by decide +kernel) (h3 : (m == "life") = false := by decide +kernel) (h4 : (m == "deeds") = false := by decide +kernel) : IsObj C m (.ref p) H :=
  let ⟨dx, ho⟩ := h.obj; ⟨p, dx, _, rfl, ho, lf_no h1 h2 h3 h4⟩
end
/-- how a class is called -/
structure Maker (P : Program) (w : World) (K : PySem.W.Frag) (mg : Str → Option Value) (base : Heap) (x : Str) (k : Nat) (C : Addr) (sp : Sp) : Prop where
  ex : ∃ (f : Addr) (fd : FuncData) (ps : List Str), Mk K C f ∧ mg x = some (.ref C) ∧ FnOk P w K mg base CX0 k f fd ps sp ∧ Binds K fd ps []
theorem pe_mkD {X : Cx} {x : Str} {k j : Nat} {C : Addr} {sp : Sp} {e : Expr} {es : List Expr} {t : TA} {p pos : Pos} (D : Maker X.prog X.w X.K X.mg X.base x k C sp) (hr : Room j X.A) (hg : Gl X x) (ha : PA X (e :: es) t)
    (hkj : k + 1 ≤ j := by omega) (hdb : (x == ("__debug__" : Str)) = false := by decide) (he : starEach (e :: es) X.env = (false, eval e X.env) :: starEach es X.env := by rfl) (hpl : (backTo pos (starEach es X.env)).any (·.1) = false := by rfl) :
    PE X (.Call (.Name x p) (e :: es) [] pos) (tMake C sp [] E0 t) := by
  obtain ⟨f, fd, ps, hm, hx, F, hb⟩ := D.ex
  exact pe_make hm F (hr.mono hkj) hg hx hb .nil pass0 ha hdb he hpl
/-- tuple.index of a text -/
def rTIx (K : PySem.W.Frag) (x : V) (xs : List V) (H : Hp) (Q : VK) : Prop := ∃ p, ∃ ys : List Str, ∃ z j, x = .ref p ∧ xs = [.str z] ∧ SqT K H p (ys.map V.str) ∧ ys[j]? = some z ∧ (∀ m, m < j → ys[m]? ≠ some z) ∧ Q (.int (j : Nat)) H
theorem mt_tix {X : Cx} : MtR X "tuple.index" (rTIx X.K) := mt_tup_index
theorem rTIx_r {K : PySem.W.Frag} {p : Addr} {z : Str} {H : Hp} {Q : VK} : rTIx K (.ref p) [.str z] H Q = ∃ (ys : List Str) (j : Nat), SqT K H p (ys.map V.str) ∧ ys[j]? = some z ∧ (∀ m, m < j → ys[m]? ≠ some z) ∧ Q (.int (j : Nat)) H :=
  propext ⟨fun ⟨_, ys, z', j, e1, e2, h⟩ => by cases e1; cases e2; exact ⟨ys, j, h⟩, fun ⟨ys, j, h⟩ => ⟨p, ys, z, j, rfl, rfl, h⟩⟩
/-- the truth of any value -/
def tTru (K : PySem.W.Frag) (ta : TE) : TT := fun σ H Q => ta σ H fun x H' => ∃ k, TruV K x H' k ∧ Q k H'
theorem pt_tru {X : Cx} {a : Expr} {ta : TE} (ha : PE X a ta) (he : ∀ whole, isTrue a X.env whole = (do let v ← whole; standAt a.pos; holding [v] (truthy v)) := by intro _; rfl) : PT X a (tTru X.K ta) := pt_truth ha he
/-- a def with defaults, by its body -/
theorem okD {P : Program} {w : World} {K : PySem.W.Frag} {mg : Str → Option Value} {base : Heap} {x qual : Str} {params : Arguments} {body : List Stmt} {scope : Scope} {dvs : List V} {kws : List (Str × V)} {f : Addr} {fd : FuncData} {N ps : List Str} {k : Nat} {sp : Sp}
    (F : FunD K x qual params body scope dvs kws f fd) (S : FnScope N ps scope) (len : ∀ vs H Q E, sp vs H Q E → vs.length = ps.length)
    (hbody : ∀ (cdv : Value) (A : Around) (outer : List Env) (s : Shared) (H : Hp) (vs : List V) (Q : VK) (E : XK), Room k (A.deeper (envOfC qual scope s.heap.objs.size f cdv)) → sp vs H Q E →
      ∃ t, PSs (cxOf L2.CX0 P w K mg base N qual scope f cdv A outer s H E).nox body t ∧ t { nx := fun _ H' => Q .non H', rt := Q } (L2.start N vs) H) : FnOk P w K mg base L2.CX0 (k + 1) f fd ps sp :=
  F.ok S len fun cdv A outer s H vs Q E hr h => let ⟨t, a, b⟩ := hbody cdv A outer s H vs Q E hr h; ⟨t, a.nox, b⟩
/-- every argument is given, one default stands by -/
theorem binds_one {K : PySem.W.Frag} {x qual : Str} {params : Arguments} {body : List Stmt} {scope : Scope} {v : V} {f : Addr} {fd : FuncData} {ps : List Str} (F : FunD K x qual params body scope [v] [] f fd)
    (h : ∀ (T : Addr) (kV doc pm : Value) (an : Option Addr) (cdv ct : Value) (us its : List Value), us.length = ps.length → its.length = 1 →
      ∃ k, bindArgs (PySem.W.fnOf x qual params body scope (.ref T) kV doc pm an cdv ct) ⟨us, []⟩ = seqItems? (.ref T) >>= k ∧ k (some its.toArray) = pure (ps.zip (us ++ its.drop 1))) : Binds K fd ps [] := by
  obtain ⟨ds, h1, h2⟩ := F.binds1 ps.length 1 (List.cons_ne_nil _ _) rfl h
  cases h1
  exact h2
end Bk

namespace Bk
open PySem PySem.Spec PyProof.Rows L2 RZ
/-! ### len and zip of lists or tuples -/
def rLnS (K : PySem.W.Frag) : List V → Hp → VK → Prop := fun xs H Q => ∃ p ys, xs = [.ref p] ∧ (SqL K H p ys ∨ SqT K H p ys) ∧ Q (.int ys.length) H
def rZipA (K : PySem.W.Frag) (vs : List V) (H1 : Hp) (R : It → Hp → Prop) : Prop := ∃ a b xs ys, vs = [.ref a, .ref b] ∧ ((SqL K H1 a xs ∧ SqL K H1 b ys ∧ R (Itz K a b) H1) ∨ (SqT K H1 a xs ∧ SqT K H1 b ys ∧ R (ItzT K a b) H1))
theorem iZipA_eq {K : PySem.W.Frag} {ta : TA} {σ : L2.St} {H : Hp} {R : It → Hp → Prop} : iZipA K ta σ H R = ta σ H fun vs H1 => rZipA K vs H1 R := rfl
theorem rZipA_r {K : PySem.W.Frag} {a b : Addr} {H : Hp} {R : It → Hp → Prop} : rZipA K [.ref a, .ref b] H R = ∃ xs ys, (SqL K H a xs ∧ SqL K H b ys ∧ R (Itz K a b) H) ∨ (SqT K H a xs ∧ SqT K H b ys ∧ R (ItzT K a b) H) := propext ⟨fun ⟨_, _, xs, ys, e, h⟩ => by cases e; exact ⟨xs, ys, h⟩, fun ⟨xs, ys, h⟩ => ⟨a, b, xs, ys, rfl, h⟩⟩
theorem walk_zipT {K : PySem.W.Frag} {a b : Addr} {xs ys : List V} {n : Nat} (hn : n = min xs.length ys.length) : Walk (ItzT K a b) n (fun H => SqT K H a xs ∧ SqT K H b ys) (YPair (fun i => xs[i]?) (fun i => ys[i]?)) := by
  subst hn
  refine ⟨fun i _ hi q => ?_, fun _ q => ⟨xs, ys, q.1, q.2, by omega⟩, fun i H v H' _ q y => ?_⟩
  · have g1 : i < xs.length := by omega
    have g2 : i < ys.length := by omega
    exact ⟨xs, ys, xs[i], ys[i], q.1, q.2, by simp [g1], by simp [g2]⟩
  · obtain ⟨T, x, z, g1, g2, g3, g4, g5⟩ := y
    exact ⟨T, x, z, g1, g2, g3, g4 xs q.1, g5 ys q.2⟩
/-! ### data that is alike: so deep, no dicts -/
def sameOk : Nat → PyData → Bool
  | _, .none => true
  | _, .bool _ => true
  | _, .int _ => true
  | _, .str _ => true
  | 0, .list _ => false
  | 0, .tuple _ => false
  | k + 1, .list ds => decide (ds.length ≤ 1000) && ds.all (sameOk k)
  | k + 1, .tuple ds => decide (ds.length ≤ 1000) && ds.all (sameOk k)
  | _, .dict _ => false
end Bk

namespace Bk
open PySem PySem.Spec PyProof.Rows L2
theorem cxW {CX : CXT} {P : Program} {w : World} {K : PySem.W.Frag} {mg : Str → Option Value} {base : Heap} {N : List Str} {qual : Str} {scope : Scope} {f : Addr} {cd : Value} {A : Around} {outer : List Env} {s : Shared} {H : Hp} {E : XK} :
    (cxOf CX P w K mg base N qual scope f cd A outer s H E).w = w := rfl
/-! ### days alike, nights for nothing -/
def flatG (ws : List Int) : Good := ⟨ws.map fun w => ⟨w, 5, 0, some 0⟩, none⟩
end Bk

namespace Bk
open PySem PySem.Spec PyProof.Rows L2
/-! ### a bakery's text -/
theorem pe_globS {X : Cx} {x y : Str} {t : Tok} {pos : Pos} (hg : Gl X x) (hm : X.mg x = some (.str y t)) (hd : (x == ("__debug__" : Str)) = false := by decide) : PE X (.Name x pos) (tC (.str y)) := pe_glob hg hm ⟨_, rfl⟩ hd
/-- a list, or a tuple: walked either way -/
def iLT (K : PySem.W.Frag) (te : TE) : TI := fun σ H R => iList K te σ H R ∨ iTup K te σ H R
def rJoin (K : PySem.W.Frag) : V → List V → Hp → VK → Prop := fun x xs H Q => ∃ a p, ∃ ys : List Str, x = .str a ∧ xs = [.ref p] ∧ (SqL K H p (ys.map V.str) ∨ SqT K H p (ys.map V.str)) ∧ (ys.map (·.length)).sum + ys.length * a.length ≤ 16777216 ∧ Q (.str (Txt.join a ys)) H
def wordO : Option Int → Str
  | none => "-"
  | some i => toString i
def dayO (d : Day) : List (Option Int) := [some d.want, some d.loaf, some d.keep, d.fine]
def rowO (l : List (Option Int)) : Str := Txt.join " " (l.map wordO)
def goodRows (g : Good) : List Str := ("good " ++ wordO g.life) :: g.days.map fun d => rowO (dayO d)
def bakRows (b : Bak) : List Str := ("oven " ++ wordO b.bound) :: ("lights " ++ rowO (b.lights.map some)) :: (b.goods.map goodRows).flatten
def bakText (b : Bak) : Str := Txt.join "\n" (bakRows b)
def SmO (o : Option Int) : Prop := ∀ i, o = some i → i.natAbs < 10 ^ 12
end Bk

namespace Bk
open PySem PySem.Spec PyProof.Rows L2
/-! ### an error that was caught, and is kept behind the suite -/
def ExK (cls : Value) (d : Option Addr) (a : Addr) : HO := .ext fun h => ∃ (oe : Obj) (vs : Array Value), h.get? a = some oe ∧ Zc cls d oe ∧ oe.data = .fields vs
theorem exK_ok {P : Program} {w : World} {H : Hp} {h : Heap} {a : Addr} {cls : Value} {d : Option Addr} {oe : Obj} {vs : Array Value} (e : h.get? a = some oe) (z : Zc cls d oe) (hd : oe.data = .fields vs) : ObjOk P w H h a (ExK cls d a) :=
  ⟨⟨oe, vs, e, z, hd⟩, ⟨oe, e⟩, fun _ _ ⟨o, v, q, r⟩ k => ⟨o, v, k o q, r⟩⟩
section
variable {X : Cx} {pins : List (Addr × Obj)} {σ : L2.St} {H : Hp} {s : Shared}
theorem track {a : Addr} {cls : Value} {d : Option Addr} {oe : Obj} {vs : Array Value} (I : Inv X pins σ H s) (ha : s.heap.get? a = some oe) (hz : Zc cls d oe) (hd : oe.data = .fields vs) (na : H a = none) (nL : a ≠ X.env.locals)
    (n0 : ∀ o, X.s_0.heap.get? a = some o → a ∈ X.ex) (np : ∀ p ∈ X.pn ++ pins, p.1 ≠ a) : Inv X pins σ (upd H a (ExK cls d a)) s := by
  have ne : ∀ {b : Addr} {u : HO}, H b = some u → b ≠ a := fun e z => by rw [z, na] at e; cases e
  refine ⟨I.ok, I.os, I.bare, ⟨I.base.keep, I.base.slot, fun b o e n hx => ?_, I.base.there, fun b xs e => ?_, fun b o u e => ?_, fun b ps e => ?_⟩, I.loc, I.cell, ?_, fun x c e => ?_, fun p hp => ?_, fun b u e => ?_, I.len⟩
  · rw [upd_ne (fun z => hx (by rw [z] at e ⊢; exact n0 o e))]
    exact I.base.free b o e n hx
  · have := I.base.tups b xs e
    rw [upd_ne (ne this)]
    exact this
  · have := I.base.frzs b o u e
    rw [upd_ne (ne this)]
    exact this
  · obtain ⟨more, this⟩ := I.base.tbls b ps e
    exact ⟨more, by rw [upd_ne (ne this)]; exact this⟩
  · rw [upd_ne (Ne.symm nL)]
    exact I.free
  · have hca : c ≠ a := fun z => by
      obtain ⟨v, o, h1, h2⟩ := I.cell x c e
      rw [z, ha] at h1
      cases h1
      rw [hd] at h2
      cases h2
    rw [upd_ne hca]
    exact I.freeC x c e
  · have := I.pin p hp
    exact ⟨this.1, by rw [upd_ne (np p hp)]; exact this.2.1, this.2.2⟩
  · by_cases hb : b = a
    · subst hb
      rw [upd_same] at e
      cases e
      exact exK_ok ha hz hd
    · rw [upd_ne hb] at e
      exact (I.hok b u e).stay (fun c v _ q => q) (fun c q => by rw [upd_ne (ne q)]; exact q) fun c xs q => by rw [upd_ne (ne q)]; exact q
/-- what is wished for at a try whose suite keeps the error -/
def wKeep (K : PySem.W.Frag) (c : Value) (i : Nat) (ts : Addr → Value → Option Addr → TS) (Wout : WX) (D : Ends) : WX := fun cls d σ H =>
  ∃ b, PySem.W.exmOne K cls c = some b ∧ (b = false → Wout cls d σ H) ∧ (b = true → ∀ a, H a = none →
    ts a cls d { nx := fun σ' H' => D.nx (σ'.set i none) (upd H' a (ExK cls d a)), rt := fun _ _ => False, bk := fun _ _ => False, ct := fun _ _ => False } (σ.set i (some (.ref a))) H)
end
/-! ### isinstance of a kept error -/
/-- the dict of an error, where it has one, is tracked -/
def DictIn (H : Hp) : Option Addr → Prop
  | none => True
  | some dx => ∃ fs, H dx = some (.xd fs)
theorem DictIn.same {H H' : Hp} {d : Option Addr} (h : DictIn H d) (s : Same H H') : DictIn H' d := by
  cases d with
  | none => trivial
  | some dx =>
    obtain ⟨fs, e⟩ := h
    exact ⟨fs, s _ _ e⟩
def rIsX (K : PySem.W.Frag) : List V → Hp → VK → Prop := fun xs H Q => ∃ (a C : Addr) (d : Option Addr) (c : V) (cv : Value) (b : Bool), xs = [.ref a, c] ∧ H a = some (ExK (.ref C) d a) ∧ DictIn H d ∧ ExcC K C ∧ RelV c cv ∧ (∀ u, RelV c u → u = cv) ∧ PySem.W.kitOne K (.ref C) cv = some b ∧ Q (.bl b) H
theorem call_isX {X : Cx} : CallR X (.builtin "isinstance") (rIsX X.K) := by
  intro pins s σ H xs us Q I r h
  obtain ⟨a, C, d, c, cv, b, rfl, ha, hdi, T, _, hcv, e, q⟩ := h
  cases r with
  | cons rx rr =>
    cases rr with
    | cons rt rr =>
      cases rr
      cases rx
      have ec := hcv _ rt
      subst ec
      obtain ⟨⟨oe, vs, hget, hz, hv⟩, _, _⟩ := I.hok a _ ha
      obtain ⟨cd, hcd, _⟩ := PySem.W.any_some T.hd
      have hcl : (PySem.W.clsIn X.K C).isSome = true := by rw [hcd]; rfl
      have J : ∃ od, PySem.W.InstAt s.heap a oe C od := by
        obtain ⟨oc, odi, oda, osl⟩ := oe
        obtain ⟨h1, h2⟩ := hz
        dsimp only at h1 h2 hv
        subst h1 h2 hv
        cases odi with
        | none => exact ⟨none, hget, rfl, rfl, trivial⟩
        | some dx =>
          obtain ⟨fs, hfs⟩ := hdi
          obtain ⟨od, hod⟩ := objOk_get (I.hok dx _ hfs)
          exact ⟨some od, hget, rfl, rfl, hod⟩
      obtain ⟨od, J⟩ := J
      exact PySem.W.kia_one (PySem.W.kitx_exc hcl T.hg T.hk T.hs T.ha T.hn T.ht T.hm) I.kIn J e (fun z => nomatch z) fun tk => ⟨.bl b, H, I.kept (t' := tk) fun _ _ z => z, rfl, q⟩
theorem rIsX_r {K : PySem.W.Frag} {a : Addr} {c : V} {H : Hp} {Q : VK} : rIsX K [.ref a, c] H Q = ∃ (C : Addr) (d : Option Addr) (cv : Value) (b : Bool), H a = some (ExK (.ref C) d a) ∧ DictIn H d ∧ ExcC K C ∧ RelV c cv ∧ (∀ u, RelV c u → u = cv) ∧ PySem.W.kitOne K (.ref C) cv = some b ∧ Q (.bl b) H :=
  propext ⟨fun ⟨_, C, d, _, cv, b, e, h⟩ => by cases e; exact ⟨C, d, cv, b, h⟩, fun ⟨C, d, cv, b, h⟩ => ⟨a, C, d, c, cv, b, rfl, h⟩⟩
/-! ### errors made of a text -/
structure Err1 (K : PySem.W.Frag) (mg : Str → Option Value) (x : Str) (C : Addr) : Prop where
  g : mg x = some (.ref C)
  q : PySem.W.excIn K C [.type "ValueError", .type "Exception", .type "BaseException", .type "object"] "ValueError.__new__" = true
  k : PySem.W.keepIn K (.ref C) = true
  s : PySem.W.subIn K (.ref C) (.type "BaseException") = some true
  t : PySem.W.typeIn K (.ref C) = some (.type "type")
theorem ps_raise1 {X : Cx} {x m : Str} {C : Addr} {W : WX} {j : Nat} {p p2 pos pos2 : Pos} (R : Err1 X.K X.mg x C) (hc : X.calm = true) (tk : Takes X W) (hg : Gl X x) (hdb : (x == ("__debug__" : Str)) = false := by decide) :
    PS X (.Raise (some (.Call (.Name x p) [.Constant (.str m) j p2] [] pos)) none pos2) (fun _ σ H => W (.ref C) none σ H) :=
  ps_raise hc tk (pmk_own F.excBase_ValueError R.q R.g R.k (raises_own R.s R.t) hg hdb)
/-! ### promises joined -/
theorem fnOr {P : Program} {w : World} {K : PySem.W.Frag} {mg : Str → Option Value} {base : Heap} {CX : CXT} {k : Nat} {f : Addr} {fd : FuncData} {ps : List Str} {sp1 sp2 : Sp} (F1 : FnOk P w K mg base CX k f fd ps sp1) (F2 : FnOk P w K mg base CX k f fd ps sp2) :
    FnOk P w K mg base CX k f fd ps (fun vs H Q E => sp1 vs H Q E ∨ sp2 vs H Q E) :=
  ⟨fun vs H Q E h => h.elim (F1.len vs H Q E) (F2.len vs H Q E), fun A outer s H args us vs Q E hr he hb hv h => h.elim (F1.run A outer s H args us vs Q E hr he hb hv) (F2.run A outer s H args us vs Q E hr he hb hv)⟩
theorem fnLift {P : Program} {w : World} {K : PySem.W.Frag} {mg : Str → Option Value} {base : Heap} {CX : CXT} {k : Nat} {f : Addr} {fd : FuncData} {ps : List Str} {sp : Sp} (F : FnOk P w K mg base CX0 k f fd ps sp) : FnOk P w K mg base CX k f fd ps sp :=
  ⟨F.len, fun A outer s H args us vs Q E hr he hb hv h => codeAny_mono (F.run A outer s H args us vs Q E hr he hb hv h) fun r s' hq => by
    cases r with
    | error e => exact False.elim hq
    | ok fl => cases fl <;> exact hq⟩
theorem fnDrop {P : Program} {w : World} {K : PySem.W.Frag} {mg : Str → Option Value} {base : Heap} {k : Nat} {f : Addr} {fd : FuncData} {ps : List Str} {sp sp' : Sp} (F : FnOk P w K mg base (L2.CX P w) k f fd ps sp) (h : ∀ vs H Q E, sp' vs H Q E → sp vs H Q E0) : FnOk P w K mg base CX0 k f fd ps sp' :=
  ⟨fun vs H Q E q => F.len vs H Q E0 (h vs H Q E q), fun A outer s H args us vs Q E hr he hb hv q => codeAny_mono (F.run A outer s H args us vs Q E0 hr he hb hv (h vs H Q E q)) fun r s' hq => by
    cases r with
    | error e =>
      obtain ⟨_, _, _, _, _, _, _, _, _, _, _, _, z⟩ := hq
      exact z
    | ok fl => cases fl <;> exact hq⟩
theorem DefX.drop {P : Program} {w : World} {K : PySem.W.Frag} {mg : Str → Option Value} {base : Heap} {x : Str} {k : Nat} {ps : List Str} {sp sp' : Sp} (D : DefX P w K mg base x k ps sp) (h : ∀ vs H Q E, sp' vs H Q E → sp vs H Q E0) : Def P w K mg base x k ps sp' := by
  obtain ⟨f, fd, h1, h2, h3, h4⟩ := D.ex
  exact ⟨f, fd, h1, h2, h3, fnDrop h4 h⟩
theorem DefX.imp {P : Program} {w : World} {K : PySem.W.Frag} {mg : Str → Option Value} {base : Heap} {x : Str} {k : Nat} {ps : List Str} {sp sp' : Sp} (D : DefX P w K mg base x k ps sp) (h : ∀ vs H Q E, sp' vs H Q E → sp vs H Q E) : DefX P w K mg base x k ps sp' := by
  obtain ⟨f, fd, h1, h2, h3, h4⟩ := D.ex
  exact ⟨f, fd, h1, h2, h3, h4.imp h⟩
theorem pe_globR {X : Cx} {x : Str} {C : Addr} {pos : Pos} (hg : Gl X x) (hm : X.mg x = some (.ref C)) (hd : (x == ("__debug__" : Str)) = false := by decide) : PE X (.Name x pos) (tC (.ref C)) := pe_glob (v := .ref C) hg hm rfl hd
/-! ### what an error is called -/
/-- isinstance's answers for the errors of a class -/
structure Kinds (K : PySem.W.Frag) (C : Addr) (cs : List Addr) (ks : List Bool) : Prop where
  T : ExcC K C
  each : ∀ (i : Nat) (c : Addr), cs[i]? = some c → ∃ b, ks[i]? = some b ∧ PySem.W.kitOne K (.ref C) (.ref c) = some b
  base : PySem.W.kitOne K (.ref C) (.type "ValueError") = some true
def named : List Str → List Bool → List Str
  | n :: ns, k :: ks => if k = true then n :: named ns ks else named ns ks
  | _, _ => []
end Bk

namespace Bk
open PySem PySem.Spec PyProof.Rows L2
/-! ### a ledger: a day added, a day taken back -/
theorem TkAll.snoc {H : Hp} {v : V} {d : PyData} : ∀ {xs : List V} {es : List PyData}, TkAll H xs es → Tk H v d → TkAll H (xs ++ [v]) (es ++ [d])
  | _, _, .nil, h => .cons h .nil
  | _, _, .cons g t, h => .cons g (TkAll.snoc t h)
theorem TkAll.unsnoc {H : Hp} : ∀ {xs : List V} {es : List PyData}, TkAll H xs es → TkAll H xs.dropLast es.dropLast
  | _, _, .nil => .nil
  | _, _, .cons g .nil => .nil
  | _, _, .cons g (.cons h t) => .cons g (TkAll.unsnoc (.cons h t))
theorem mem_of_drop {α : Type} {l : List α} {x : α} (h : x ∈ l.dropLast) : x ∈ l := by
  rw [List.dropLast_eq_take] at h
  exact List.mem_of_mem_take h
def addG (g : Good) (d : Day) : Good := ⟨g.days ++ [d], g.life⟩
def dropG (g : Good) : Good := ⟨g.days.dropLast, g.life⟩
section
variable {C p L D E : Addr} {H : Hp} {ls : List Int} {g : Good} {ds : List Deed}
theorem Led.add (h : Led C H p L D E ls g ds) {z : Int} {t : Addr} {d : Day} {xs ws : List V} (hx : H D = some (.lst xs)) (hw : H E = some (.lst ws)) (ht : H t = some (.tup [.int d.want, .int d.loaf, .int d.keep, optV d.fine])) (hz : numD (.int z) = true) (hd : dayB (dayD d) = true) (hn : ls.length < 40) :
    Led C (upd (upd (upd H L (.lst ((ls ++ [z]).map V.int))) D (.lst (xs ++ [.ref t]))) E (.lst (ws ++ [.non]))) p L D E (ls ++ [z]) (addG g d) (ds ++ [none]) := by
  obtain ⟨⟨dx, ho⟩, hl, ⟨xs', hd', htk⟩, ⟨ws', he, hws⟩, ok, a, b, c⟩ := h
  rw [hd'] at hx
  cases hx
  rw [he] at hw
  cases hw
  have npL : p ≠ L := fun q => by rw [q, hl] at ho; cases ho
  have npD : p ≠ D := fun q => by rw [q, hd'] at ho; cases ho
  have npE : p ≠ E := fun q => by rw [q, he] at ho; cases ho
  have s1 := tupsOf_upd (o := .lst ((ls ++ [z]).map V.int)) hl
  have e2 : upd H L (.lst ((ls ++ [z]).map V.int)) D = some (.lst xs) := by rw [upd_ne a.symm]; exact hd'
  have s2 := tupsOf_upd (o := .lst (xs ++ [.ref t])) e2
  have e3 : upd (upd H L (.lst ((ls ++ [z]).map V.int))) D (.lst (xs ++ [.ref t])) E = some (.lst ws) := by rw [upd_ne c.symm, upd_ne b.symm]; exact he
  have s3 := tupsOf_upd (o := .lst (ws ++ [.non])) e3
  have st := s1.trans (s2.trans s3)
  have hday : Tk (tupsOf H) (.ref t) (dayD d) := .tup (tupsOf_at ht) (.cons (.int _) (.cons (.int _) (.cons (.int _) (.cons (Tk.optV _) .nil))))
  refine ⟨⟨dx, by rw [upd_ne npE, upd_ne npD, upd_ne npL]; exact ho⟩, by rw [upd_ne b, upd_ne a, upd_same], ⟨_, by rw [upd_ne c, upd_same], ?_⟩, ⟨_, upd_same, (hws.snoc (d := none) rfl).same st⟩, ?_, a, b, c⟩
  · show TkAll _ _ ((g.days ++ [d]).map dayD)
    rw [show (g.days ++ [d]).map dayD = g.days.map dayD ++ [dayD d] from List.map_append]
    exact (htk.snoc hday).same st
  · obtain ⟨⟨c1, c2⟩, c3, c4, ⟨c5, c6⟩, c7⟩ := bak_parts ok
    dsimp only at c1 c2 c3 c4
    obtain ⟨k1, k2, k3⟩ := c7 g List.mem_cons_self
    dsimp only at k1
    refine bakB_mk (by rw [List.length_append]; exact Nat.le_add_left 1 _) (by rw [List.length_append]; exact hn) (fun y hy => ?_) c4 (Nat.le_refl _) (by show 1 ≤ 2; decide) (fun g' hg' => ?_)
    · rcases List.mem_append.mp hy with hy | hy
      · exact c3 y hy
      · rw [List.mem_singleton.mp hy]; exact hz
    · rw [List.mem_singleton.mp hg']
      refine ⟨by show (g.days ++ [d]).length = (ls ++ [z]).length; rw [List.length_append, List.length_append, k1]; rfl, k2, fun y hy => ?_⟩
      rcases List.mem_append.mp (show y ∈ g.days ++ [d] from hy) with hy | hy
      · exact k3 y hy
      · rw [List.mem_singleton.mp hy]; exact hd
theorem Led.unadd (h : Led C H p L D E ls g (ds ++ [none])) (hn : 2 ≤ ls.length) : ∃ us xs, H E = some (.lst (us ++ [.non])) ∧ H D = some (.lst xs) ∧ xs ≠ [] ∧
    Led C (upd (upd (upd H E (.lst us)) L (.lst (ls.dropLast.map V.int))) D (.lst xs.dropLast)) p L D E ls.dropLast (dropG g) ds := by
  obtain ⟨⟨dx, ho⟩, hl, ⟨xs, hd', htk⟩, ⟨ws', he, hws⟩, ok, a, b, c⟩ := h
  obtain ⟨us, v, rfl, h1, h2⟩ := hws.last
  have h2 : v = .non := h2
  subst h2
  have npL : p ≠ L := fun q => by rw [q, hl] at ho; cases ho
  have npD : p ≠ D := fun q => by rw [q, hd'] at ho; cases ho
  have npE : p ≠ E := fun q => by rw [q, he] at ho; cases ho
  have s1 := tupsOf_upd (o := .lst us) he
  have e2 : upd H E (.lst us) L = some (.lst (ls.map V.int)) := by rw [upd_ne b]; exact hl
  have s2 := tupsOf_upd (o := .lst (ls.dropLast.map V.int)) e2
  have e3 : upd (upd H E (.lst us)) L (.lst (ls.dropLast.map V.int)) D = some (.lst xs) := by rw [upd_ne a.symm, upd_ne c]; exact hd'
  have s3 := tupsOf_upd (o := .lst xs.dropLast) e3
  have st := s1.trans (s2.trans s3)
  obtain ⟨⟨c1, c2⟩, c3, c4, ⟨c5, c6⟩, c7⟩ := bak_parts ok
  dsimp only at c1 c2 c3 c4
  obtain ⟨k1, k2, k3⟩ := c7 g List.mem_cons_self
  dsimp only at k1
  have hxl := htk.length
  rw [List.length_map] at hxl
  refine ⟨us, xs, he, hd', fun e => by rw [e] at hxl; simp at hxl; omega, ⟨dx, by rw [upd_ne npD, upd_ne npL, upd_ne npE]; exact ho⟩, by rw [upd_ne a, upd_same], ⟨_, upd_same, ?_⟩, ⟨_, by rw [upd_ne c.symm, upd_ne b.symm, upd_same], h1.same st⟩, ?_, a, b, c⟩
  · show TkAll _ _ (g.days.dropLast.map dayD)
    have e : g.days.dropLast.map dayD = (g.days.map dayD).dropLast := by rw [List.dropLast_eq_take, List.dropLast_eq_take, List.map_take, List.length_map]
    rw [e]
    exact htk.unsnoc.same st
  · refine bakB_mk (by show 1 ≤ ls.dropLast.length; rw [List.length_dropLast]; omega) (by show ls.dropLast.length ≤ 40; rw [List.length_dropLast]; omega) (fun y hy => c3 y (mem_of_drop hy)) c4 (Nat.le_refl _) (by show 1 ≤ 2; decide) (fun g' hg' => ?_)
    rw [List.mem_singleton.mp hg']
    refine ⟨by show g.days.dropLast.length = ls.dropLast.length; rw [List.length_dropLast, List.length_dropLast, k1], k2, fun y hy => k3 y (mem_of_drop hy)⟩
end
end Bk

namespace Bk
open PySem PySem.Spec PyProof.Rows L2
/-! ### xs[::-1] of a list -/
def rRng3 (vs : List V) (H1 : Hp) (R : It → Hp → Prop) : Prop := ∃ (i j c : Int) (n : Nat), vs = [.int i, .int j, .int c] ∧ RgC i j c n ∧ R (Itc i c n) H1
theorem iRng3_eq {ta : TA} {σ : L2.St} {H : Hp} {R : It → Hp → Prop} : iRng3 ta σ H R = ta σ H fun vs H1 => rRng3 vs H1 R := rfl
theorem rRng3_i {i j c : Int} {H : Hp} {R : It → Hp → Prop} : rRng3 [.int i, .int j, .int c] H R = ∃ n, RgC i j c n ∧ R (Itc i c n) H := propext ⟨fun ⟨_, _, _, n, e, h⟩ => by cases e; exact ⟨n, h⟩, fun ⟨n, h⟩ => ⟨i, j, c, n, rfl, h⟩⟩
/-- the last lit days never go back -/
theorem Lasts.mono {g : Good} {ls : List Int} {os : List (Option Nat)} (h : Lasts g ls os) (hg : g.days.length = ls.length) (hl : ∀ b, 0 ≤ rowF ls b) (N : NonNegW g.days) (S : Steady g) {n l : Nat} (hn : n < ls.length) (e : os[n]? = some (some l)) : ∃ l', os[n + 1]? = some (some l') ∧ l ≤ l' := by
  obtain ⟨row, hR, hat⟩ := h.row
  have hol := h.len
  have e' : os[n + 1]? = some os[n + 1] := List.getElem?_eq_getElem (by omega)
  generalize os[n + 1] = o at e'
  have h1 := hat n _ e
  have h2 := hat (n + 1) _ e'
  by_cases hw : wantN g n = 0
  · have hi := h1.of_iff (g' := g) (lights' := rowF ls) (row' := row) (j' := n + 1) fun d => (last_unw hR (by omega) hl N S hn hw d).symm
    have := h2.uniq hi
    subst this
    exact ⟨l, e', Nat.le_refl _⟩
  · obtain ⟨d, hd⟩ := last_wanted hR (by omega) hl N S hn hw
    cases o with
    | none => exact absurd hd (h2 d)
    | some l' => exact ⟨l', e', last_up hR (by omega) hl N S hn hw h1.1 h2⟩
end Bk

namespace Bk
open PySem PySem.Spec PyProof.Rows L2
/-! ### one price for all loaves: known costs -/
theorem IsRow.cut {g : Good} {lights row : Nat → Int} {n m : Nat} (h : IsRow g lights row n) (hm : m ≤ n) : IsRow g lights row m := ⟨h.zero, fun k hk => h.some k (by omega), fun k hk => h.least k (by omega)⟩
/-- the light of a wanted day, else nothing -/
def litW (g : Good) (L : Nat → Int) (k : Nat) : Int := if wantN g k = 0 then 0 else L k
/-! ### the told plan -/
/-! ### the three families -/
def famG (ws : List Int) (c : Int) (f l : Option Int) : Good := ⟨ws.map fun w => ⟨w, c, 0, f⟩, l⟩
/-- which days may bake for which, by the way -/
def May (way : Nat) (b k : Nat) : Prop := way = 0 ∨ way = 1 ∧ b ≤ k ∨ way = 2 ∧ b = k
def famF (way : Nat) : Option Int := if way = 0 then some 0 else none
def famL (way : Nat) : Option Int := if way = 2 then some 0 else none
/-- what the law's own row holds at m -/
structure KRow (way : Nat) (ws ls : List Int) (c : Int) (m : Nat) (v : Int) : Prop where
  none : way < 2 → (∀ k, k < m → rowF ws k = 0) → v = 0
  some : way < 2 → ∀ k0, k0 < m → rowF ws k0 ≠ 0 → (∀ k, k < k0 → rowF ws k = 0) → ∃ b, b < m ∧ (way = 1 → b ≤ k0) ∧ (∀ b', b' < m → (way = 1 → b' ≤ k0) → rowF ls b ≤ rowF ls b') ∧ v = c * sumN (rowF ws) m + rowF ls b
  each : way = 2 → v = c * sumN (rowF ws) m + sumN (fun k => if rowF ws k = 0 then 0 else rowF ls k) m
/-- the wanted days among the first ones -/
def wantK (ws : List Int) (i : Nat) : List Nat := (List.range i).filter fun k => decide (0 < rowF ws k)
def natK (n : Nat) : V := .int (n : Int)
end Bk

namespace Bk
open PySem PySem.Spec PyProof.Rows L2
/-! ### ledgers beside each other -/
section
variable {C p L D E : Addr} {H H' : Hp} {ls : List Int} {g : Good} {ds : List Deed} {S : List Addr}
/-- all of these places hold lists -/
def Lsts (H : Hp) (S : List Addr) : Prop := ∀ q ∈ S, ∃ xs, H q = some (.lst xs)
theorem Led.lists (h : Led C H p L D E ls g ds) : Lsts H [L, D, E] := fun q hq => by
  obtain ⟨_, hl, ⟨xs, hd, _⟩, ⟨ws, he, _⟩, _⟩ := h
  simp only [List.mem_cons, List.not_mem_nil, or_false] at hq
  rcases hq with rfl | rfl | rfl
  · exact ⟨_, hl⟩
  · exact ⟨_, hd⟩
  · exact ⟨_, he⟩
theorem tups_but (hS : Lsts H S) : Same (tupsOf H) (tupsOf (but S H)) := fun b o e => by
  obtain ⟨e', ys, rfl⟩ := tupsOf_is e
  refine tupsOf_at (but_at (fun hm => ?_) e')
  obtain ⟨xs, hx⟩ := hS b hm
  rw [hx] at e'
  cases e'
theorem Led.but1 (h : Led C H p L D E ls g ds) (hS : Lsts H S) (hL : L ∉ S) (hD : D ∉ S) (hE : E ∉ S) : Led C (but S H) p L D E ls g ds := by
  obtain ⟨⟨dx, ho⟩, hl, ⟨xs, hd, ht⟩, ⟨ws, he, hw⟩, ok, a, b, c⟩ := h
  have st := tups_but hS
  refine ⟨⟨dx, but_at (fun hm => ?_) ho⟩, but_at hL hl, ⟨xs, but_at hD hd, ht.same st⟩, ⟨ws, but_at hE he, hw.same st⟩, ok, a, b, c⟩
  obtain ⟨xs, hx⟩ := hS p hm
  rw [hx] at ho
  cases ho
/-- three places that are none of these -/
def Ap (L D E : Addr) (S : List Addr) : Prop := L ∉ S ∧ D ∉ S ∧ E ∉ S
theorem Ap.symm {L' D' E' : Addr} (h : Ap L D E [L', D', E']) : Ap L' D' E' [L, D, E] := by
  obtain ⟨h1, h2, h3⟩ := h
  simp only [List.mem_cons, List.not_mem_nil, or_false, not_or] at h1 h2 h3
  obtain ⟨a1, a2, a3⟩ := h1
  obtain ⟨b1, b2, b3⟩ := h2
  obtain ⟨c1, c2, c3⟩ := h3
  refine ⟨?_, ?_, ?_⟩ <;> simp only [List.mem_cons, List.not_mem_nil, or_false, not_or]
  · exact ⟨Ne.symm a1, Ne.symm b1, Ne.symm c1⟩
  · exact ⟨Ne.symm a2, Ne.symm b2, Ne.symm c2⟩
  · exact ⟨Ne.symm a3, Ne.symm b3, Ne.symm c3⟩
/-- a ledger stays while another one's lists are changed -/
theorem Led.keep (h : Led C H p L D E ls g ds) (hS : Lsts H S) (ha : Ap L D E S) (s : Same (but S H) (but S H')) : Led C H' p L D E ls g ds :=
  ((h.but1 hS ha.1 ha.2.1 ha.2.2).same s).same (but_same _ _)
theorem Led.apart {L' D' E' : Addr} (h : Led C H p L D E ls g ds) (h1 : H L' = none) (h2 : H D' = none) (h3 : H E' = none) : Ap L' D' E' [L, D, E] := ⟨h.not_new h1, h.not_new h2, h.not_new h3⟩
/-- what was there ahead of three new places is there beside them -/
theorem same_but {H0 H1 : Hp} (s : Same H0 H1) (h1 : H0 L = none) (h2 : H0 D = none) (h3 : H0 E = none) : Same H0 (but [L, D, E] H1) := fun b o e => but_at (fun hm => by
  simp only [List.mem_cons, List.not_mem_nil, or_false] at hm
  rcases hm with rfl | rfl | rfl
  · rw [h1] at e; cases e
  · rw [h2] at e; cases e
  · rw [h3] at e; cases e) (s _ _ e)
end
end Bk

namespace Bk
open PySem PySem.Spec PyProof.Rows L2
/-! ### a method that may refuse, called where its refusal is caught -/
structure MetX (P : Program) (w : World) (K : PySem.W.Frag) (mg : Str → Option Value) (base : Heap) (k : Nat) (C : Addr) (m : Str) (sp : Sp) : Prop where
  ex : ∃ (f : Addr) (fd : FuncData) (ps : List Str), Cls K C ∧ Meth K C m f ∧ FnOk P w K mg base (L2.CX P w) k f fd ps sp ∧ Binds K fd ps []
/-- what its caller has to know: the object, the arguments, the promise at the caller's own slots -/
def tMethW (C : Addr) (m : Str) (sp : Sp) (E : L2.St → XK) (ta : TE) (t : TA) : TE := fun σ H Q => ta σ H fun x H1 => IsObj C m x H1 ∧ t σ H1 fun vs H2 => sp (x :: vs) H2 Q (E σ)
section
variable {X : Cx} {k j : Nat} {C : Addr} {m : Str} {sp : Sp} {W : WX} {pos apos : Pos} {e o : Expr} {es : List Expr} {ta : TE} {t : TA}
theorem pe_mtW0 {pl : Sem Bool} (c : MetX X.prog X.w X.K X.mg X.base k C m sp) (tk : Takes X W) (hr : Room j X.A) (hk : k ≤ j) (he : PE X o ta)
    (look : eval (.Call (.Attribute o m apos) [] [] pos) X.env = (eval o X.env >>= fun ov => standAt apos.atName >>= fun _ => holding [ov] (getMethod ov m pl) >>= fun z => callWith pos z.1 z.2 (backTo pos (starEach [] X.env)) (backToKw pos (keywordEach [] X.env))) := by rfl) :
    PE X (.Call (.Attribute o m apos) [] [] pos) (tMethW C m sp (WE W) ta tNil) := by
  obtain ⟨f, fd, ps, hc, hm, F, hb⟩ := c.ex
  constructor
  intro pins s σ H Q I h
  apply PySem.W.methodCall_KW (pl := pl) _ look
  apply thn (he.run pins s σ H _ I h)
  rintro u s1 ⟨x, H1, I1, rx, ⟨a, dx, fs, rfl, ea, l⟩, q⟩
  cases rx
  apply getmeth_ok I1 ea hc hm l
  have ran := run_fnS (us := [.ref a]) (vs := [.ref a]) F (hr.mono hk) hb (passAt tk σ) I1 (.cons rfl .nil) q
  exact PySem.W.callWith_K0 (first := [.ref a]) I1.kIn hm.kp ran
theorem pe_mtW {pl : Sem Bool} (c : MetX X.prog X.w X.K X.mg X.base k C m sp) (tk : Takes X W) (hr : Room j X.A) (hk : k ≤ j) (he : PE X o ta) (ha : PA X (e :: es) t)
    (stars : starEach (e :: es) X.env = (false, eval e X.env) :: starEach es X.env := by rfl) (plain : (backTo pos (starEach es X.env)).any (·.1) = false := by rfl)
    (look : eval (.Call (.Attribute o m apos) (e :: es) [] pos) X.env = (eval o X.env >>= fun ov => standAt apos.atName >>= fun _ => holding [ov] (getMethod ov m pl) >>= fun z => callWith pos z.1 z.2 (backTo pos (starEach (e :: es) X.env)) (backToKw pos (keywordEach [] X.env))) := by rfl) :
    PE X (.Call (.Attribute o m apos) (e :: es) [] pos) (tMethW C m sp (WE W) ta t) := by
  obtain ⟨f, fd, ps, hc, hm, F, hb⟩ := c.ex
  constructor
  intro pins s σ H Q I h
  apply PySem.W.methodCall_KW (pl := pl) _ look
  apply thn (he.run pins s σ H _ I h)
  rintro u s1 ⟨x, H1, I1, rx, ⟨a, dx, fs, rfl, ea, l⟩, q⟩
  cases rx
  apply getmeth_ok I1 ea hc hm l
  apply PySem.W.callWith_K (first := [.ref a]) (h₀ := X.base) I.ok.mod.kin hm.kp _ stars plain
  apply thn (ha.run pos pins s1 σ H1 _ I1 q)
  rintro us s2 ⟨vs, H2, I2, r, q2⟩
  exact ⟨I2.kIn, run_fnS (us := .ref a :: us) (vs := .ref a :: vs) F (hr.mono hk) hb (passAt tk σ) I2 (.cons rfl r) q2⟩
end
end Bk

namespace Bk
open PySem PySem.Spec PyProof.Rows L2
/-! ### isinstance of a kept error, many classes; its fields -/
theorem instX {X : Cx} {pins : List (Addr × Obj)} {σ : L2.St} {H : Hp} {s : Shared} {a C : Addr} {d : Option Addr} (I : Inv X pins σ H s) (ha : H a = some (ExK (.ref C) d a)) (hdi : DictIn H d) : ∃ oe od, PySem.W.InstAt s.heap a oe C od := by
  obtain ⟨⟨oe, vs, hget, hz, hv⟩, _, _⟩ := I.hok a _ ha
  refine ⟨oe, ?_⟩
  obtain ⟨oc, odi, oda, osl⟩ := oe
  obtain ⟨h1, h2⟩ := hz
  dsimp only at h1 h2 hv
  subst h1 h2 hv
  cases odi with
  | none => exact ⟨none, hget, rfl, rfl, trivial⟩
  | some dx =>
    obtain ⟨fs, hfs⟩ := hdi
    obtain ⟨od, hod⟩ := objOk_get (I.hok dx _ hfs)
    exact ⟨some od, hget, rfl, rfl, hod⟩
def rIsXT (K : PySem.W.Frag) : List V → Hp → VK → Prop := fun xs H Q => ∃ (a C tp : Addr) (d : Option Addr) (cs : List V) (us : List Value) (b : Bool), xs = [.ref a, .ref tp] ∧ H a = some (ExK (.ref C) d a) ∧ DictIn H d ∧ ExcC K C ∧ H tp = some (.tup cs) ∧ Paired ClsV cs us ∧ PySem.W.kitAny K (.ref C) us = some b ∧ Q (.bl b) H
theorem call_isXT {X : Cx} : CallR X (.builtin "isinstance") (rIsXT X.K) := by
  intro pins s σ H xs us Q I r h
  obtain ⟨a, C, tp, d, cs, ws, b, rfl, ha, hdi, T, hT, k, e, q⟩ := h
  obtain ⟨u1, u2, rfl, r1, r2⟩ := vals2 r
  cases (show u1 = Value.ref a from r1)
  cases (show u2 = Value.ref tp from r2)
  obtain ⟨cd, hcd, _⟩ := PySem.W.any_some T.hd
  have hcl : (PySem.W.clsIn X.K C).isSome = true := by rw [hcd]; rfl
  obtain ⟨oe, od, J⟩ := instX I ha hdi
  obtain ⟨_, its, rv, o, h1, h2, n, h3⟩ := (show ObjOk X.prog X.w H s.heap tp (.tup cs) from I.hok tp _ hT)
  have e3 := ClsV.all k rv
  subst e3
  obtain ⟨oc, od', dt, sl⟩ := o
  simp only at h2 h3
  subst h2 h3
  exact PySem.W.kia_tup (PySem.W.kitx_exc hcl T.hg T.hk T.hs T.ha T.hn T.ht T.hm) I.kIn J h1 e (fun z => nomatch z) fun tk => ⟨.bl b, H, I.kept (t' := tk) fun _ _ z => z, rfl, q⟩
theorem rIsXT_r {K : PySem.W.Frag} {a tp : Addr} {H : Hp} {Q : VK} : rIsXT K [.ref a, .ref tp] H Q = ∃ (C : Addr) (d : Option Addr) (cs : List V) (us : List Value) (b : Bool), H a = some (ExK (.ref C) d a) ∧ DictIn H d ∧ ExcC K C ∧ H tp = some (.tup cs) ∧ Paired ClsV cs us ∧ PySem.W.kitAny K (.ref C) us = some b ∧ Q (.bl b) H :=
  propext ⟨fun ⟨_, C, _, d, cs, us, b, e, h⟩ => by cases e; exact ⟨C, d, cs, us, b, h⟩, fun ⟨C, d, cs, us, b, h⟩ => ⟨a, C, tp, d, cs, us, b, rfl, h⟩⟩
/-- a field of a kept error -/
def tXk (K : PySem.W.Frag) (n : Str) (te : TE) : TE := fun σ H Q => te σ H fun x H1 => ∃ (a C dd : Addr) (fs : List (Str × V)) (v : V), x = .ref a ∧ H1 a = some (ExK (.ref C) (some dd) a) ∧ XfC K C ∧ PySem.W.findIn K (.ref C) n = some none ∧ H1 dd = some (.xd fs) ∧ fs.lookup n = some v ∧ Q v H1
theorem pe_xk {X : Cx} {e : Expr} {te : TE} {pos : Pos} {n : Str} (he : PE X e te) (hb : attributeBase e n X.env (eval e X.env) = eval e X.env := by rfl) : PE X (.Attribute e n pos) (tXk X.K n te) := by
  refine ⟨fun pins s σ H Q I h => ?_⟩
  refine attr_of hb (thn (he.run pins s σ H _ I h) fun u s1 hh => ?_)
  obtain ⟨x, H1, I1, rx, a, C, dd, fs, v, ex, ha, T, hno, ea, l, q⟩ := hh
  subst ex
  obtain rfl : u = Value.ref a := rx
  obtain ⟨⟨oe, vs, hget, hz, hd⟩, _, _⟩ := I1.hok a _ ha
  have hx : ObjOk X.prog X.w H1 s1.heap dd (.xd fs) := I1.hok dd _ ea
  obtain ⟨mA, hns, hr⟩ := hx
  obtain ⟨od, ho, hl⟩ := lookIn_ns hns
  obtain ⟨u, hu, ru⟩ := RelO.some_of (v := v) (o := mA n) (by rw [← l]; exact hr n)
  have J : PySem.W.InstAt s1.heap a oe C (some od) := ⟨hget, hz.1, by unfold PySem.W.notCls; rw [hd] <;> rfl, by rw [hz.2]; exact ho⟩
  exact HandSPX.exc_get I1.kIn J T.ga T.gg T.exC (PySem.W.findObj_own T.hdC hno rfl (by rw [hl, hu])) (handed_of ru) ⟨v, H1, I1.tok _, ru, q⟩
end Bk

namespace Bk
open PySem PySem.Spec PyProof.Rows L2
/-! ### errors made as values -/
def tMade (t : L2.St → Hp → XK → Prop) : TE := fun σ H Q => t σ H fun cls d H1 => ∀ a, H1 a = none → Q (.ref a) (upd H1 a (ExK cls d a))
/-- C(e), a class without own init -/
def tMk1 (C : Addr) (te : TE) : TE := fun σ H Q => te σ H fun _ H1 => ∀ a, H1 a = none → Q (.ref a) (upd H1 a (ExK (.ref C) none a))
/-- C(u, v), a class whose init keeps both -/
def tMk2 (K : PySem.W.Frag) (C : Addr) (f1 f2 : Str) (ta : TA) : TE := fun σ H Q => ta σ H fun vs H1 => rRaise2 K C f1 f2 (fun cls d _ H2 => ∀ a, H2 a = none → Q (.ref a) (upd H2 a (ExK cls d a))) σ vs H1
/-! ### the init of an error with one field -/
def spInit1 (K : PySem.W.Frag) (C : Addr) (f1 : Str) : Sp := fun vs H Q _ => ∃ (a : Addr) (u : V), vs = [.ref a, u] ∧ smV u ∧ H a = some (exo a C none) ∧ ∀ dx, H dx = none → dx ≠ a → Q .non (upd (upd H dx (exd dx [(f1, u)])) a (exo a C (some dx)))
structure Err1f (P : Program) (w : World) (K : PySem.W.Frag) (mg : Str → Option Value) (base : Heap) (x : Str) (C : Addr) (f1 : Str) : Prop where
  g : mg x = some (.ref C)
  T : OexC K C
  init : ∃ (fI : Addr) (fd : FuncData), PySem.W.findIn K (.ref C) "__init__" = some (some (.ref fI)) ∧ PySem.W.typeIn K (.ref fI) = some (.type "function") ∧ Binds K fd ["self", f1] [] ∧ FnOk P w K mg base CX0 1 fI fd ["self", f1] (spInit1 K C f1)
def rMk1f (K : PySem.W.Frag) (C : Addr) (f1 : Str) (Q : XK) (vs : List V) (H1 : Hp) : Prop := vs.length ≤ 1000 ∧ ∀ a, H1 a = none → spInit1 K C f1 (.ref a :: (vs ++ [])) (upd H1 a (exo a C none))
  (fun v H2 => v = .non ∧ ∃ (d : Addr) (fs : List (Str × V)), H2 a = some (exo a C (some d)) ∧ H2 d = some (exd d fs) ∧ H1 d = none ∧ Q (.ref C) (some d) (upd (del H2 a) d (.xd fs))) (fun _ _ _ => False)
def tMk1f (K : PySem.W.Frag) (C : Addr) (f1 : Str) (ta : TA) : TE := fun σ H Q => ta σ H fun vs H1 => rMk1f K C f1 (fun cls d H2 => ∀ a, H2 a = none → Q (.ref a) (upd H2 a (ExK cls d a))) vs H1
end Bk

namespace Bk
open PySem PySem.Spec PyProof.Rows L2
/-! ### an error of one field, raised -/
def rRaise1f (K : PySem.W.Frag) (C : Addr) (f1 : Str) (W : WX) (σ : L2.St) (vs : List V) (H1 : Hp) : Prop := vs.length ≤ 1000 ∧ ∀ a, H1 a = none → spInit1 K C f1 (.ref a :: (vs ++ [])) (upd H1 a (exo a C none))
  (fun v H2 => v = .non ∧ ∃ (d : Addr) (fs : List (Str × V)), H2 a = some (exo a C (some d)) ∧ H2 d = some (exd d fs) ∧ H1 d = none ∧ W (.ref C) (some d) σ (upd (del H2 a) d (.xd fs))) (fun _ _ _ => False)
def tRaise1f (K : PySem.W.Frag) (C : Addr) (f1 : Str) (W : WX) (ta : TA) : TS := fun _ σ H => ta σ H fun vs H1 => rRaise1f K C f1 W σ vs H1
end Bk

namespace Bk
open PySem PySem.Spec PyProof.Rows L2
/-! ### rows that are never come to -/
theorem pss_none {X : Cx} {sts : List Stmt} : PSs X sts (fun _ _ _ => False) := ⟨fun _ _ _ _ _ _ h => h.elim⟩
end Bk

namespace Bk
open PySem PySem.Spec PyProof.Rows L2
/-! ### comprehensions with two fors -/
def Lc1R (J : It) (g : TG) (tt : TT) (te : TE) (vs : List Nat) (σ : L2.St) (D : Addr) (H1 : Hp) (Qd : Hp → Prop) : Prop := ∃ W : Nat → Nat → Hp → Prop, (∃ m, W 0 m H1) ∧ ∀ i m H, W i m H →
  (J.stop i H ∧ Qd H) ∨ (J.go i H ∧ ∃ Nx : Hp → Prop, (∀ H', Nx H' → ∃ m', m' < m ∧ W (i + 1) m' H') ∧ ∀ x H', J.yld i H x H' → g x (wipe σ vs) H' fun σ2 H2 => wipe σ2 vs = wipe σ vs ∧ tt σ2 H2 fun b H3 =>
    if b = true then te σ2 H3 fun y H4 => ∃ acc, H4 D = some (.lst acc) ∧ acc.length < sizeLine ∧ Nx (upd H4 D (.lst (acc ++ [y]))) else Nx H3)
def Lc2R (J : It) (g : TG) (tt : TT) (wi1 : TI) (g1 : TG) (tt1 : TT) (te : TE) (vs vs1 : List Nat) (σ : L2.St) (D : Addr) (H1 : Hp) (Qd : Hp → Prop) : Prop := ∃ W : Nat → Nat → Hp → Prop, (∃ m, W 0 m (upd H1 D (.lst []))) ∧ ∀ i m H, W i m H →
  (J.stop i H ∧ Qd H) ∨ (J.go i H ∧ ∃ Nx : Hp → Prop, (∀ H', Nx H' → ∃ m', m' < m ∧ W (i + 1) m' H') ∧ ∀ x H', J.yld i H x H' → g x (wipe σ vs) H' fun σ2 H2 => wipe σ2 vs = wipe σ vs ∧ tt σ2 H2 fun b H3 =>
    if b = true then wi1 σ2 H3 fun J1 H4 => Lc1R J1 g1 tt1 te vs1 σ2 D H4 Nx else Nx H3)
theorem tLc2_eq {wi wi1 : TI} {g g1 : TG} {tt tt1 : TT} {te : TE} {vs vs1 : List Nat} {σ : L2.St} {H : Hp} {Q : VK} : tLc2 wi g tt wi1 g1 tt1 te vs vs1 σ H Q = wi σ H fun J H1 => ∀ D, H1 D = none → Lc2R J g tt wi1 g1 tt1 te vs vs1 σ D H1 (fun H => Q (.ref D) H) := rfl
section
variable {J : It} {n : Nat} {G : Hp → Prop} {Y : Nat → Hp → V → Hp → Prop} {g g1 : TG} {tt tt1 : TT} {wi1 : TI} {te : TE} {vs vs1 : List Nat} {σ : L2.St} {H1 : Hp} {D : Addr} {Qd : Hp → Prop}
theorem Lc1R.by (w : Walk J n G Y) (Pv : Nat → Hp → Prop) (h0 : Pv 0 H1) (hG : ∀ i H, i ≤ n → Pv i H → G H)
    (hs : ∀ i x H H', i < n → Pv i H → Y i H x H' → g x (wipe σ vs) H' fun σ2 H2 => wipe σ2 vs = wipe σ vs ∧ tt σ2 H2 fun b H3 =>
      if b = true then te σ2 H3 fun y H4 => ∃ acc, H4 D = some (.lst acc) ∧ acc.length < sizeLine ∧ Pv (i + 1) (upd H4 D (.lst (acc ++ [y]))) else Pv (i + 1) H3) (hd : ∀ H, Pv n H → Qd H) : Lc1R J g tt te vs σ D H1 Qd := by
  refine ⟨fun i m H => m = n - i ∧ i ≤ n ∧ Pv i H, ⟨n, by simp, Nat.zero_le _, h0⟩, ?_⟩
  rintro i m H ⟨rfl, hi, p⟩
  have q := hG i H hi p
  by_cases hlt : i < n
  · refine .inr ⟨w.goes i H hlt q, Pv (i + 1), fun H' p' => ⟨n - (i + 1), by omega, rfl, hlt, p'⟩, fun x H' y => hs i x H H' hlt p (w.yields i H x H' hlt q y)⟩
  · have e : i = n := by omega
    subst e
    exact .inl ⟨w.stops H q, hd H p⟩
theorem Lc2R.by (w : Walk J n G Y) (Pv : Nat → Hp → Prop) (h0 : Pv 0 (upd H1 D (.lst []))) (hG : ∀ i H, i ≤ n → Pv i H → G H)
    (hs : ∀ i x H H', i < n → Pv i H → Y i H x H' → g x (wipe σ vs) H' fun σ2 H2 => wipe σ2 vs = wipe σ vs ∧ tt σ2 H2 fun b H3 =>
      if b = true then wi1 σ2 H3 fun J1 H4 => Lc1R J1 g1 tt1 te vs1 σ2 D H4 (Pv (i + 1)) else Pv (i + 1) H3) (hd : ∀ H, Pv n H → Qd H) : Lc2R J g tt wi1 g1 tt1 te vs vs1 σ D H1 Qd := by
  refine ⟨fun i m H => m = n - i ∧ i ≤ n ∧ Pv i H, ⟨n, by simp, Nat.zero_le _, h0⟩, ?_⟩
  rintro i m H ⟨rfl, hi, p⟩
  have q := hG i H hi p
  by_cases hlt : i < n
  · refine .inr ⟨w.goes i H hlt q, Pv (i + 1), fun H' p' => ⟨n - (i + 1), by omega, rfl, hlt, p'⟩, fun x H' y => hs i x H H' hlt p (w.yields i H x H' hlt q y)⟩
  · have e : i = n := by omega
    subst e
    exact .inl ⟨w.stops H q, hd H p⟩
end
/-! ### triples of numbers on the heap -/
/-- a reach and how many -/
abbrev Tr := Int × Int × Int
def trV (t : Tr) : List V := [.int t.1, .int t.2.1, .int t.2.2]
inductive Trs (H : Hp) : List V → List Tr → Prop
  | nil : Trs H [] []
  | cons {p : Addr} {t : Tr} {vs : List V} {ts : List Tr} : H p = some (.tup (trV t)) → Trs H vs ts → Trs H (.ref p :: vs) (t :: ts)
theorem Trs.same {H H' : Hp} (s : Same H H') : ∀ {vs : List V} {ts : List Tr}, Trs H vs ts → Trs H' vs ts
  | _, _, .nil => .nil
  | _, _, .cons e h => .cons (s _ _ e) (h.same s)
theorem Trs.length {H : Hp} : ∀ {vs : List V} {ts : List Tr}, Trs H vs ts → vs.length = ts.length
  | _, _, .nil => rfl
  | _, _, .cons _ h => by rw [List.length_cons, List.length_cons, h.length]
theorem Trs.get {H : Hp} : ∀ {vs : List V} {ts : List Tr} {i : Nat} {v : V}, Trs H vs ts → vs[i]? = some v → ∃ p t, v = .ref p ∧ ts[i]? = some t ∧ H p = some (.tup (trV t))
  | _, _, 0, v, .cons e h, q => by cases q; exact ⟨_, _, rfl, rfl, e⟩
  | _, _, i + 1, v, .cons e h, q => h.get (i := i) q
/-- a list of such -/
def TrL (H : Hp) (v : V) (ts : List Tr) : Prop := ∃ a vs, v = .ref a ∧ H a = some (.lst vs) ∧ Trs H vs ts
theorem TrL.same {H H' : Hp} {v : V} {ts : List Tr} (h : TrL H v ts) (s : Same H H') : TrL H' v ts := by
  obtain ⟨a, vs, e, h1, h2⟩ := h
  exact ⟨a, vs, e, s _ _ h1, h2.same s⟩
end Bk

namespace Bk
open PySem PySem.Spec PyProof.Rows L2
/-! ### four tables of numbers, by day and good, in lists of their own -/
def rowM (m : Nat) (f : Nat → Int) : List V := (List.range m).map fun g => V.int (f g)
structure Mats (H : Hp) (A : Nat → Addr) (R : Nat → Nat → Addr) (n m : Nat) (v : Nat → Nat → Nat → Int) : Prop where
  top : ∀ k, k < 4 → H (A k) = some (.lst ((List.range n).map fun d => V.ref (R k d)))
  row : ∀ k d, k < 4 → d < n → H (R k d) = some (.lst (rowM m (v k d)))
  inj : ∀ k d k' d', k < 4 → d < n → k' < 4 → d' < n → R k d = R k' d' → k = k' ∧ d = d'
def addV (v : Nat → Nat → Nat → Int) (k d g : Nat) (x : Int) : Nat → Nat → Nat → Int := fun k' d' g' => if k' = k ∧ d' = d ∧ g' = g then v k' d' g' + x else v k' d' g'
theorem rowM_get {m : Nat} {f : Nat → Int} {g : Nat} (h : g < m) : (rowM m f)[g]? = some (.int (f g)) := by
  unfold rowM
  rw [List.getElem?_map, List.getElem?_range h]
  rfl
theorem rowM_len (m : Nat) (f : Nat → Int) : (rowM m f).length = m := by
  unfold rowM
  rw [List.length_map, List.length_range]
theorem rowM_set {m : Nat} {f : Nat → Int} {g : Nat} {x : Int} : (rowM m f).set g (.int x) = rowM m (fun j => if j = g then x else f j) := by
  apply List.ext_getElem?
  intro j
  rw [List.getElem?_set, rowM_len]
  unfold rowM
  rw [List.getElem?_map, List.getElem?_map]
  by_cases e : g = j
  · subst e
    rw [if_pos rfl]
    by_cases h : g < m
    · rw [if_pos h, List.getElem?_range h]
      simp
    · rw [if_neg h, List.getElem?_eq_none (by rw [List.length_range]; omega)]
      rfl
  · rw [if_neg e]
    by_cases h : j < m
    · rw [List.getElem?_range h]
      simp only [Option.map_some]
      rw [if_neg fun z => e z.symm]
    · rw [List.getElem?_eq_none (by rw [List.length_range]; omega)]
      rfl
theorem Mats.same {H H' : Hp} {A : Nat → Addr} {R : Nat → Nat → Addr} {n m : Nat} {v : Nat → Nat → Nat → Int} (s : Same H H') (h : Mats H A R n m v) : Mats H' A R n m v := ⟨fun k hk => s _ _ (h.top k hk), fun k d hk hd => s _ _ (h.row k d hk hd), h.inj⟩
theorem Mats.ne {H : Hp} {A : Nat → Addr} {R : Nat → Nat → Addr} {n m : Nat} {v : Nat → Nat → Nat → Int} (h : Mats H A R n m v) (hn : 1 ≤ n) {k j d : Nat} (hk : k < 4) (hj : j < 4) (hd : d < n) (hm : 1 ≤ m) : A k ≠ R j d := fun z => by
  have h1 := h.top k hk
  have h2 := h.row j d hj hd
  rw [z, h2] at h1
  have h3 := Option.some.inj h1
  injection h3 with h3
  have := congrArg (·[0]?) h3
  simp only [rowM_get hm, List.getElem?_map, List.getElem?_range (show 0 < n from hn)] at this
  cases this
theorem Mats.add {H : Hp} {A : Nat → Addr} {R : Nat → Nat → Addr} {n m : Nat} {v : Nat → Nat → Nat → Int} (h : Mats H A R n m v) (hn : 1 ≤ n) (hm : 1 ≤ m) {k d g : Nat} (hk : k < 4) (hd : d < n) (x : Int) : Mats (upd H (R k d) (.lst ((rowM m (v k d)).set g (.int (v k d g + x))))) A R n m (addV v k d g x) := by
  refine ⟨fun j hj => ?_, fun j e hj he => ?_, h.inj⟩
  · rw [upd_ne (h.ne hn hj hk hd hm)]
    exact h.top j hj
  · by_cases hz : R j e = R k d
    · obtain ⟨rfl, rfl⟩ := h.inj j e k d hj he hk hd hz
      rw [upd_same, rowM_set]
      congr 2
      unfold rowM addV
      refine List.map_congr_left fun y _ => ?_
      dsimp only
      by_cases hy : y = g
      · rw [if_pos hy, if_pos ⟨rfl, rfl, hy⟩, hy]
      · rw [if_neg hy, if_neg fun z => hy z.2.2]
    · rw [upd_ne hz, h.row j e hj he]
      congr 2
      unfold rowM addV
      refine List.map_congr_left fun y _ => ?_
      rw [if_neg fun z => hz (by rw [z.1, z.2.1])]
theorem Mats.congr {H : Hp} {A : Nat → Addr} {R : Nat → Nat → Addr} {n m : Nat} {v u : Nat → Nat → Nat → Int} (h : Mats H A R n m v) (e : ∀ k d g, k < 4 → d < n → g < m → v k d g = u k d g) : Mats H A R n m u :=
  ⟨h.top, fun k d hk hd => by
    rw [h.row k d hk hd]
    congr 2
    unfold rowM
    exact List.map_congr_left fun g hg => by rw [e k d g hk hd (List.mem_range.mp hg)], h.inj⟩
/-- what a row of a plan does on a day: baked, given, kept over its night, waiting over it -/
def valR (r : Row4) (k d g : Nat) : Int := if r.b = g ∧ ((k = 0 ∧ d = r.a) ∨ (k = 1 ∧ d = max r.a r.c) ∨ (k = 2 ∧ r.a ≤ d ∧ d < r.c) ∨ (k = 3 ∧ r.c ≤ d ∧ d < r.a)) then r.m else 0
def vals (L : List Row4) (k d g : Nat) : Int := (L.map fun r => valR r k d g).sum
end Bk

namespace Bk
open PySem PySem.Spec PyProof.Rows L2
/-! ### what is told of a plan, whether it fits or not -/
def rowAt (L : List Row4) (i : Nat) : Row4 := L.getD i ⟨0, 0, 0, 0⟩
def headR (r : Row4) : List Int := [(r.a : Int), (r.b : Int), (r.c : Int)]
def risesB (L : List Row4) : Bool := (List.range (L.length - 1)).all fun i => HT.lexLt (headR (rowAt L i)) (headR (rowAt L (i + 1)))
def priceAt (b : Bak) (r : Row4) : Option Int := match b.goods[r.b]? with
  | some g => loafP g r.a r.c
  | none => none
def wantB (b : Bak) (g d : Nat) : Int := match b.goods[g]? with
  | none => 0
  | some gd => wantN gd d
def metM (L : List Row4) (g d : Nat) : Int := (L.map fun r => if r.b = g ∧ r.c = d then r.m else 0).sum
def meetsB (b : Bak) (L : List Row4) : Bool := (List.range b.goods.length).all fun g => (List.range b.lights.length).all fun d => decide (metM L g d = wantB b g d)
def rowsD (m : Nat) (f : Nat → Nat → Int) (gs : List Nat) : List PyData := gs.map fun g => .list (((List.range m).map (f g)).map PyData.int)
end Bk

namespace Bk
open PySem PySem.Spec PyProof.Rows L2
/-! ### rows of a plan, of anything -/
/-- whether it is the number of one of so many things -/
def plB (n : Nat) : PyData → Bool
  | .int i => decide (0 ≤ i) && decide (i < (n : Int))
  | _ => false
theorem plB_nat {n : Nat} {d : PyData} (h : plB n d = true) : ∃ i : Nat, d = .int (i : Int) ∧ i < n := by
  cases d with
  | int i =>
    simp only [plB, Bool.and_eq_true, decide_eq_true_eq] at h
    exact ⟨i.toNat, by rw [show ((i.toNat : Nat) : Int) = i by omega], by omega⟩
  | _ => cases h
def posD : PyData → Bool
  | .int i => decide (i ≥ 1)
  | _ => false
/-- whether it is a row of a plan, of so many days and goods -/
def prB (n k : Nat) : PyData → Bool
  | .tuple [a, b, c, m] => (plB n a && (plB k b && plB n c)) && posD m
  | _ => false
structure PRow (n k : Nat) (r : Row4) : Prop where
  a : r.a < n
  b : r.b < k
  c : r.c < n
  m : 1 ≤ r.m
def rowOf : PyData → Row4
  | .tuple [.int a, .int b, .int c, .int m] => ⟨a.toNat, b.toNat, c.toNat, m⟩
  | _ => ⟨0, 0, 0, 0⟩
def keepsB (b : Bak) (L : List Row4) : Bool := match b.bound with
  | none => true
  | some k => (List.range b.lights.length).all fun d => decide (loadR L d ≤ k)
def fitP (b : Bak) (L : List Row4) : Bool := (risesB L && L.all fun r => (priceAt b r).isSome) && (meetsB b L && keepsB b L)
/-- what is told of anything in a plan's place -/
def fitPB (b : Bak) : PyData → Bool
  | .list ds => ds.all (prB b.lights.length b.goods.length) && fitP b (ds.map rowOf)
  | _ => false
def FewL (d : PyData) : Prop := ∀ ds, d = .list ds → ds.length ≤ 500
def isPB (b : Bak) (d : PyData) : Bool := prB b.lights.length b.goods.length d && (priceAt b (rowOf d)).isSome
end Bk

namespace Bk
open PySem PySem.Spec PyProof.Rows L2
/-! ### repr of data with {} in it: the table of modules is not among what is shown -/
structure NoSys (K : PySem.W.Frag) (H : Hp) : Prop where
  k : K.lookup sysModules = none
  h : ∃ o φ, H sysModules = some (.frz o (.ext φ))
theorem NoSys.same {K : PySem.W.Frag} {H H' : Hp} (n : NoSys K H) (s : Same H H') : NoSys K H' := by
  obtain ⟨o, φ, e⟩ := n.h
  exact ⟨n.k, o, φ, s _ _ e⟩
theorem NoSys.lst {K : PySem.W.Frag} {H : Hp} {a : Addr} {xs : List V} (n : NoSys K H) (h : SqL K H a xs) : a ≠ sysModules := fun z => by
  obtain ⟨o, φ, e⟩ := n.h
  subst z
  rcases h with (h | ⟨ob, h⟩) | ⟨ob, its, m, h, _⟩
  · rw [e] at h; cases h
  · rw [e] at h; cases h
  · rw [n.k] at h; cases h
theorem NoSys.dic {K : PySem.W.Frag} {H : Hp} {a : Addr} (n : NoSys K H) (h : H a = some (.dK [])) : a ≠ sysModules := fun z => by
  obtain ⟨o, φ, e⟩ := n.h
  subst z
  rw [e] at h
  cases h
section
variable {X : Cx} {pins : List (Addr × Obj)} {σ : L2.St} {H : Hp} {s : Shared}
theorem dic_reads (I : Inv X pins σ H s) {a : Addr} (h : H a = some (.dK [])) : Reads s.heap (.ref a) (.dict []) [a] := by
  obtain ⟨_, _, vs, r, o, es, ep, e1, e2, e3, _, e4, _⟩ := I.hok a _ h
  have hv : vs = [] := by
    cases r
    rfl
  subst hv
  have he : es.toList = [] := by
    cases hh : es.toList with
    | nil => rfl
    | cons x y => rw [hh] at e4; cases e4
  have := Reads.dict (as := []) (bs := []) (kvs := []) e1 e2.1 e3 (by rw [he]; exact ReadsAll.nil) (by rw [he]; exact ReadsAll.nil)
  exact this
mutual
theorem Th.reads (I : Inv X pins σ H s) (n : NoSys X.K H) : ∀ {v : V} {d : PyData} {u : Value}, Th X.K H v d → RelV v u → ∃ as, Reads s.heap u d as ∧ sysModules ∉ as
  | _, _, _, .non, r => by cases r; exact ⟨_, Reads.none, by simp⟩
  | _, _, _, .bl b, r => by cases r; exact ⟨_, Reads.bool b, by simp⟩
  | _, _, _, .int i, r => by obtain ⟨t, rfl⟩ := r; exact ⟨_, Reads.int i t, by simp⟩
  | _, _, _, .str x, r => by obtain ⟨t, rfl⟩ := r; exact ⟨_, Reads.str x t, by simp⟩
  | _, _, _, .lst h t, r => by
    cases r
    have hne := n.lst h
    obtain ⟨its, rv, ⟨o, m, ho, hc, _, hd⟩, _⟩ := I.list h
    obtain ⟨as, hr, hn⟩ := ThAll.reads I n t rv
    exact ⟨_, Reads.list ho hc hd hr, by simp only [List.mem_cons, not_or]; exact ⟨Ne.symm hne, hn⟩⟩
  | _, _, _, .tup h t, r => by
    cases r
    obtain ⟨its, rv, ⟨o, ho, hc, m, hd⟩, _⟩ := I.tuple h
    obtain ⟨as, hr, hn⟩ := ThAll.reads I n t rv
    exact ⟨_, Reads.tuple ho hc hd hr, hn⟩
  | _, _, _, .dic h, r => by
    cases r
    exact ⟨_, dic_reads I h, by simp only [List.mem_singleton]; exact Ne.symm (n.dic h)⟩
theorem ThAll.reads (I : Inv X pins σ H s) (n : NoSys X.K H) : ∀ {vs : List V} {ds : List PyData} {us : List Value}, ThAll X.K H vs ds → Vals vs us → ∃ as, ReadsAll s.heap us ds as ∧ sysModules ∉ as
  | _, _, _, .nil, r => by cases r; exact ⟨_, ReadsAll.nil, by simp⟩
  | _, _, _, .cons h t, r => by
    cases r with
    | cons r1 r2 =>
      obtain ⟨as, q1, n1⟩ := Th.reads I n h r1
      obtain ⟨bs, q2, n2⟩ := ThAll.reads I n t r2
      exact ⟨_, ReadsAll.cons q1 q2, by rw [List.mem_append]; exact fun z => z.elim n1 n2⟩
end
end
/-- what may be shown: ints of few figures, not too deep, not too long -/
structure ShowsM (d : PyData) : Prop where
  able : d.showable = true
  deep : d.depth ≤ 60
  short : d.shown.length ≤ sizeLine
def rReprM (K : PySem.W.Frag) : List V → Hp → VK → Prop := fun xs H Q => ∃ x d, xs = [x] ∧ Th K H x d ∧ NoSys K H ∧ ShowsM d ∧ Q (.str d.shown) H
theorem rReprM_r {K : PySem.W.Frag} {x : V} {H : Hp} {Q : VK} : rReprM K [x] H Q = ∃ d, Th K H x d ∧ NoSys K H ∧ ShowsM d ∧ Q (.str d.shown) H := propext ⟨fun ⟨y, d, e, h⟩ => by cases e; exact ⟨d, h⟩, fun ⟨d, h⟩ => ⟨x, d, rfl, h⟩⟩
end Bk

namespace Bk
open PySem PySem.Spec PyProof.Rows L2
/-! ### data of a known size: what its text is long, and how deep it is -/
structure Szd (l j : Nat) (d : PyData) : Prop where
  able : d.showable = true
  len : d.shown.length ≤ l
  deep : d.depth ≤ j
theorem Szd.mono {l j l' j' : Nat} {d : PyData} (h : Szd l j d) (h1 : l ≤ l') (h2 : j ≤ j') : Szd l' j' d := ⟨h.able, Nat.le_trans h.len h1, Nat.le_trans h.deep h2⟩
theorem Szd.shows {l j : Nat} {d : PyData} (h : Szd l j d) (h1 : l ≤ 16000000) (h2 : j ≤ 60) : ShowsM d := ⟨h.able, Nat.le_trans h.deep h2, Nat.le_trans (Nat.le_trans h.len h1) (by rw [sizeLine_eq]; decide)⟩
theorem sm_none : Szd 4 0 .none := ⟨rfl, by decide, by decide⟩
theorem sm_int {i : Int} (h : i.natAbs < 10 ^ 60) : Szd 61 0 (.int i) := by
  refine ⟨?_, ?_, by simp only [PyData.depth, Nat.le_refl]⟩
  · simp only [PyData.showable, decide_eq_true_eq]
    exact log60 h
  · show (Str.ofString (toString i)).length ≤ 61
    rw [PySem.ofString_length]
    have := int_text_length_le10 (k := 60) (by decide) h
    omega
theorem shownAll_sum {l : Nat} : ∀ {ds : List PyData}, (∀ d ∈ ds, d.shown.length ≤ l) → ((PyData.shownAll ds).map (·.length)).sum ≤ ds.length * l
  | [], _ => by simp only [PyData.shownAll, List.map_nil, List.sum_nil, Nat.zero_le]
  | d :: r, h => by
    have h1 := h d List.mem_cons_self
    have h2 := shownAll_sum fun x hx => h x (List.mem_cons_of_mem _ hx)
    simp only [PyData.shownAll, List.map_cons, List.sum_cons, List.length_cons, Nat.add_mul, Nat.one_mul]
    omega
theorem showAll_of {ds : List PyData} (h : ∀ d ∈ ds, d.showable = true) : PyData.showableAll ds = true := by
  induction ds with
  | nil => simp only [PyData.showableAll]
  | cons x r ih => simp only [PyData.showableAll, h x List.mem_cons_self, ih fun d hd => h d (List.mem_cons_of_mem _ hd), Bool.and_self]
theorem shownAll_n : ∀ ds : List PyData, (PyData.shownAll ds).length = ds.length
  | [] => rfl
  | d :: r => by simp only [PyData.shownAll, List.length_cons, shownAll_n r]
theorem sm_len {n l : Nat} {ds : List PyData} (hn : ds.length ≤ n) : ds.length * l + 2 * ds.length + 3 ≤ n * (l + 2) + 3 := by
  have h1 : ds.length * (l + 2) ≤ n * (l + 2) := Nat.mul_le_mul_right _ hn
  rw [Nat.mul_add] at h1
  omega
theorem sm_list {n l j : Nat} {ds : List PyData} (hn : ds.length ≤ n) (h : ∀ d ∈ ds, Szd l j d) : Szd (n * (l + 2) + 3) (j + 1) (.list ds) := by
  have h1 := shownAll_sum fun d hd => (h d hd).len
  have h2 := listText_len_le (PyData.shownAll ds)
  have h3 := depthAll_le fun d hd => (h d hd).deep
  have h4 := sm_len (l := l) hn
  rw [shownAll_n] at h2
  refine ⟨by simp only [PyData.showable, showAll_of fun d hd => (h d hd).able], ?_, by simp only [PyData.depth]; omega⟩
  show (listText (PyData.shownAll ds)).length ≤ _
  omega
theorem sm_tuple {n l j : Nat} {ds : List PyData} (hn : ds.length ≤ n) (h : ∀ d ∈ ds, Szd l j d) : Szd (n * (l + 2) + 3) (j + 1) (.tuple ds) := by
  have h1 := shownAll_sum fun d hd => (h d hd).len
  have h2 := tupleText_len_le (PyData.shownAll ds)
  have h3 := depthAll_le fun d hd => (h d hd).deep
  have h4 := sm_len (l := l) hn
  rw [shownAll_n] at h2
  refine ⟨by simp only [PyData.showable, showAll_of fun d hd => (h d hd).able], ?_, by simp only [PyData.depth]; omega⟩
  show (tupleText (PyData.shownAll ds)).length ≤ _
  omega
def zAny (K : PySem.W.Frag) (l j : Nat) : Hp → V → Prop := fun H y => ∃ d, Th K H y d ∧ Szd l j d
def zTup (K : PySem.W.Frag) (n l j : Nat) : Hp → V → Prop := fun H y => ∃ ds, ds.length ≤ n ∧ Th K H y (.tuple ds) ∧ ∀ d ∈ ds, Szd l j d
def zLst (K : PySem.W.Frag) (n l j : Nat) : Hp → V → Prop := fun H y => ∃ ds, ds.length ≤ n ∧ Th K H y (.list ds) ∧ ∀ d ∈ ds, Szd l j d
def zLstE (K : PySem.W.Frag) (n l j : Nat) : Hp → V → Prop := fun H y => ∃ ds, ds.length = n ∧ Th K H y (.list ds) ∧ ∀ d ∈ ds, Szd l j d
def zAll (K : PySem.W.Frag) (n l j : Nat) : Hp → List V → Prop := fun H ys => ∃ ds, ds.length = n ∧ ThAll K H ys ds ∧ ∀ d ∈ ds, Szd l j d
def zLstT (K : PySem.W.Frag) (n l j : Nat) : Hp → V → Prop := fun H y => ∃ a xs ds, y = .ref a ∧ H a = some (.lst xs) ∧ ThAll K H xs ds ∧ ds.length ≤ n ∧ ∀ d ∈ ds, Szd l j d
section
variable {K : PySem.W.Frag} {σ : L2.St} {H : Hp} {te ta tb : TE} {n m l j l1 j1 l2 j2 : Nat}
theorem mem_rep {α : Type} {xs : List α} {x : α} {k : Nat} (h : x ∈ (List.replicate k xs).flatten) : x ∈ xs := by
  obtain ⟨l, hl, hx⟩ := List.mem_flatten.mp h
  rw [(List.mem_replicate.mp hl).2] at hx
  exact hx
end
end Bk

namespace Bk
open PySem PySem.Spec PyProof.Rows L2
/-! ### data of which something is known; lists picked from; xs[::-1] of a list -/
theorem Szd.few {l j : Nat} {ds : List PyData} (h : Szd l j (.list ds)) : 2 * ds.length ≤ l := by
  have h1 := h.len
  have h2 : (listText (PyData.shownAll ds)).length ≤ l := h1
  have h3 := (textFrom_len (PyData.shownAll ds) 0 "[").1
  rw [shownAll_n] at h3
  have hX : (listText (PyData.shownAll ds)).length = (textFrom 0 "[" (PyData.shownAll ds)).length + 1 := by
    show (textFrom 0 "[" (PyData.shownAll ds) ++ "]").length = _
    rw [strLen_append]; rfl
  have h4 : ("[" : Str).length = 1 := by decide +kernel
  rw [h4] at h3
  rw [if_neg (by decide)] at h3
  omega
def pAny (K : PySem.W.Frag) (P : PyData → Prop) : Hp → V → Prop := fun H y => ∃ d, Th K H y d ∧ P d
def pAll (K : PySem.W.Frag) (P : PyData → Prop) (n : Nat) : Hp → List V → Prop := fun H ys => ∃ ds, ds.length = n ∧ ThAll K H ys ds ∧ ∀ d ∈ ds, P d
def pLstE (K : PySem.W.Frag) (P : PyData → Prop) (n : Nat) : Hp → V → Prop := fun H y => ∃ ds, ds.length = n ∧ Th K H y (.list ds) ∧ ∀ d ∈ ds, P d
section
variable {K : PySem.W.Frag} {σ : L2.St} {H : Hp} {te ta tb : TE} {n m l j : Nat} {P : PyData → Prop}
end
end Bk

namespace Bk
open PySem PySem.Spec PyProof.Rows L2
/-! ### list == [] -/
def rEqN (K : PySem.W.Frag) : R2 := fun x y H Q => ∃ (l b : Addr) (xs : List V), x = .ref l ∧ y = .ref b ∧ SqL K H l xs ∧ SqL K H b [] ∧ Q (.bl (decide (xs.length = 0))) H
/-! ### tuples of whole numbers, new; lists that begin with them -/
def iT4 (H : Hp) (y : V) : Prop := ∃ (p : Addr) (ns : List Int), y = .ref p ∧ H p = some (.tup (ns.map V.int)) ∧ ns.length = 4 ∧ ∀ n ∈ ns, n.natAbs < 10 ^ 60
def iAll (n : Nat) (_ : Hp) (ys : List V) : Prop := ∃ ns : List Int, ns.length = n ∧ ys = ns.map V.int ∧ ∀ m ∈ ns, m.natAbs < 10 ^ 60
def iTs (n : Nat) (H : Hp) (ys : List V) : Prop := ys.length = n ∧ ∀ y ∈ ys, iT4 H y
/-- a list of n things, of which the first m are new tuples of whole numbers -/
def zIT (K : PySem.W.Frag) (n m l j : Nat) (H : Hp) (y : V) : Prop := ∃ a xs ds, y = .ref a ∧ SqL K H a xs ∧ ThAll K H xs ds ∧ ds.length = n ∧ (∀ d ∈ ds, Szd l j d) ∧ ∀ (i : Nat) (z : V), i < m → xs[i]? = some z → iT4 H z
theorem iT4.same {H H' : Hp} {y : V} (h : iT4 H y) (S : Same H H') : iT4 H' y := h.elim fun p ⟨ns, e, g, r⟩ => ⟨p, ns, e, S _ _ g, r⟩
theorem szd_intsT {ns : List Int} (h : ∀ n ∈ ns, n.natAbs < 10 ^ 60) : ∀ d ∈ ns.map PyData.int, Szd 61 0 d := fun d hd => by
  obtain ⟨n, hn, rfl⟩ := List.mem_map.mp hd
  exact sm_int (h n hn)
theorem iT4.any {K : PySem.W.Frag} {H : Hp} {y : V} (h : iT4 H y) : zAny K 255 1 H y := h.elim fun p ⟨ns, e, g, e4, hb⟩ => ⟨.tuple (ns.map PyData.int), by rw [e]; exact .tup (SqT.of g) (ThAll.ints ns), sm_tuple (n := 4) (by rw [List.length_map, e4]; exact Nat.le_refl _) (szd_intsT hb)⟩
section
variable {K : PySem.W.Frag} {σ : L2.St} {H : Hp} {te ta tb : TE} {n m l j k : Nat}
variable {C : TS} {D : Ends}
end
end Bk

namespace Bk
open PySem PySem.Spec PyProof.Rows L2
/-! ### a thing that may be a dict of one entry, {0: data} -/
inductive ThX (K : PySem.W.Frag) (H : Hp) : V → PyData → Prop
  | th {v : V} {d : PyData} : Th K H v d → ThX K H v d
  | one {a : Addr} {p : V} {e : PyData} : H a = some (.dK [(Sum.inl 0, p)]) → Th K H p e → ThX K H (.ref a) (.dict [(.int 0, e)])
theorem ThX.same {K : PySem.W.Frag} {H H' : Hp} {v : V} {d : PyData} (s : Same H H') (h : ThX K H v d) : ThX K H' v d := by
  cases h with
  | th t => exact .th (t.same s)
  | one e t => exact .one (s _ _ e) (t.same s)
theorem ThX.ty {K : PySem.W.Frag} {H : Hp} {v : V} {d : PyData} (h : ThX K H v d) : TyX K H v (.type (kindD d)) := by
  cases h with
  | th t => exact t.ty
  | one e t => exact .base (.dK e)
def rIsDX (K : PySem.W.Frag) (c : Cl) : List V → Hp → VK → Prop := fun xs H Q => ∃ x d, xs = [x, .ty c.name] ∧ ThX K H x d ∧ Q (.bl (isD c d)) H
section
variable {X : Cx} {pins : List (Addr × Obj)} {σ : L2.St} {H : Hp} {s : Shared}
theorem ThX.reads (I : Inv X pins σ H s) (n : NoSys X.K H) {v : V} {d : PyData} {u : Value} (h : ThX X.K H v d) (r : RelV v u) : ∃ as, Reads s.heap u d as ∧ sysModules ∉ as := by
  cases h with
  | th t => exact t.reads I n r
  | @one a p e h t =>
    cases r
    obtain ⟨_, hs, vs, kv, o, es, ep, e1, e2, e3, _, e4, _⟩ := I.hok a _ h
    obtain ⟨kv0, rfl, ke, kr⟩ : ∃ kv0 : Key × Value, vs = [kv0] ∧ Sum.inl 0 = kv0.1 ∧ RelV p kv0.2 := by
      cases kv with
      | cons k1 kt =>
        cases kt
        exact ⟨_, rfl, k1.1, k1.2⟩
    · skip
      obtain ⟨as, hr, hn⟩ := t.reads I n kr
      have e5 : ∃ en, es.toList = [en] ∧ (mixKind X.prog X.w).is kv0.1 en.key = true ∧ en.val = kv0.2 := by
        cases hh : es.toList with
        | nil => rw [hh] at e4; cases e4
        | cons x r =>
          rw [hh] at e4
          obtain ⟨rfl, g1, g2⟩ : r = [] ∧ (mixKind X.prog X.w).is kv0.1 x.key = true ∧ x.val = kv0.2 := by
            generalize ho : [kv0] = kvs at e4
            cases e4 with
            | cons g1 g2 g3 =>
              cases ho
              cases g3
              exact ⟨rfl, g1, g2⟩
          exact ⟨x, rfl, g1, g2⟩
      obtain ⟨en, he, hk, hv⟩ := e5
      rw [← ke] at hk
      have hk : keyIs (Sum.inl 0) en.key = true := hk
      rcases keyIs_shape hk with ⟨i, t1, q1, q2⟩ | ⟨x, t1, q1, _⟩
      · cases q1
        have rd := Reads.dict (as := []) (bs := as) (kvs := [(PyData.int 0, e)]) e1 e2.1 e3 (by rw [he]; simp only [List.map]; rw [q2]; exact ReadsAll.cons (as := []) (Reads.int 0 t1) ReadsAll.nil) (by rw [he]; simp only [List.map]; rw [hv, show as = as ++ [] by simp]; exact ReadsAll.cons hr ReadsAll.nil)
        refine ⟨_, rd, ?_⟩
        simp only [List.cons_append, List.nil_append, List.mem_cons, not_or]
        exact ⟨fun z => by rw [← z] at hs; simp at hs, hn⟩
      · cases q1
end
/-- a list whose last item may be such a dict -/
inductive ThLX (K : PySem.W.Frag) (H : Hp) : V → PyData → Prop
  | mk {a : Addr} {xs : List V} {ds : List PyData} {b : V} {d : PyData} : SqL K H a (xs ++ [b]) → ThAll K H xs ds → ThX K H b d → ThLX K H (.ref a) (.list (ds ++ [d]))
def rReprX (K : PySem.W.Frag) : List V → Hp → VK → Prop := fun xs H Q => ∃ x d, xs = [x] ∧ ThLX K H x d ∧ NoSys K H ∧ ShowsM d ∧ Q (.str d.shown) H
end Bk

namespace Bk
open PySem PySem.Spec PyProof.Rows L2
/-! ### sorted(..) of a list of tuples of whole numbers, of any number -/
def rSorTL (K : PySem.W.Frag) : List V → Hp → VK → Prop := fun xs H Q => ∃ (a : Addr) (L : List (Addr × List Int)), xs = [.ref a] ∧ SqL K H a (L.map fun q => V.ref q.1) ∧ (∀ q ∈ L, H q.1 = some (.tup (q.2.map V.int))) ∧ (∀ q ∈ L, q.2 ≠ []) ∧
  ∀ (L' : List (Addr × List Int)) (p : Addr), L'.Perm L → L'.Pairwise (fun p q => p.2 ≤ q.2) → H p = none → Q (.ref p) (upd H p (.lst (L'.map fun q => V.ref q.1)))
theorem rSorTL_r {K : PySem.W.Frag} {a : Addr} {H : Hp} {Q : VK} : rSorTL K [.ref a] H Q = ∃ (L : List (Addr × List Int)), SqL K H a (L.map fun q => V.ref q.1) ∧ (∀ q ∈ L, H q.1 = some (.tup (q.2.map V.int))) ∧ (∀ q ∈ L, q.2 ≠ []) ∧
  ∀ (L' : List (Addr × List Int)) (p : Addr), L'.Perm L → L'.Pairwise (fun p q => p.2 ≤ q.2) → H p = none → Q (.ref p) (upd H p (.lst (L'.map fun q => V.ref q.1))) := propext ⟨fun ⟨_, L, e, h⟩ => by cases e; exact ⟨L, h⟩, fun ⟨L, h⟩ => ⟨a, L, rfl, h⟩⟩
end Bk

namespace Bk
open PySem PySem.Spec PyProof.Rows L2
/-! ### a plan, bent: lists of its rows, and a dict of one entry -/
/-- what a bent plan may be -/
structure Bent (d : PyData) : Prop where
  sz : Szd 1000000 8 d
  few : ∀ ds, d = .list ds → ds.length ≤ 500
def pX (K : PySem.W.Frag) (H : Hp) (y : V) : Prop := ∃ d, ThX K H y d ∧ Bent d
def xAll (K : PySem.W.Frag) (n : Nat) (H : Hp) (ys : List V) : Prop := ys.length = n ∧ ∀ y ∈ ys, pX K H y
def xLst (K : PySem.W.Frag) (n : Nat) (H : Hp) (y : V) : Prop := ∃ a xs, y = .ref a ∧ SqL K H a xs ∧ xs.length = n ∧ ∀ x ∈ xs, pX K H x
/-- this list of rows, as it was made -/
def IsPl (p : Addr) (zs : List (Addr × Row4)) (H : Hp) (y : V) : Prop := y = .ref p ∧ H p = some (.lst (zs.map fun z => V.ref z.1)) ∧ ∀ z ∈ zs, H z.1 = some (.tup [.int (z.2.a : Int), .int (z.2.b : Int), .int (z.2.c : Int), .int z.2.m])
def IsRw (z : Addr × Row4) (H : Hp) (y : V) : Prop := y = .ref z.1 ∧ H z.1 = some (.tup [.int (z.2.a : Int), .int (z.2.b : Int), .int (z.2.c : Int), .int z.2.m])
/-- a list of tuples of four whole numbers, all tracked -/
def iLs (K : PySem.W.Frag) (n : Nat) (H : Hp) (y : V) : Prop := ∃ (a : Addr) (L : List (Addr × List Int)), y = .ref a ∧ SqL K H a (L.map fun q => V.ref q.1) ∧ L.length ≤ n ∧ ∀ q ∈ L, H q.1 = some (.tup (q.2.map V.int)) ∧ q.2.length = 4 ∧ ∀ m ∈ q.2, m.natAbs < 10 ^ 60
def RowS (r : Row4) : Prop := r.a < 1000 ∧ r.b < 1000 ∧ r.c < 1000 ∧ r.m.natAbs < 10 ^ 12
def intsR (r : Row4) : List Int := [(r.a : Int), (r.b : Int), (r.c : Int), r.m]
theorem RowS.ints {r : Row4} (h : RowS r) : ∀ m ∈ intsR r, m.natAbs < 10 ^ 60 := fun m hm => by
  obtain ⟨h1, h2, h3, h4⟩ := h
  have s : ∀ n : Nat, n < 1000 → ((n : Nat) : Int).natAbs < 10 ^ 60 := fun n h => Nat.lt_of_lt_of_le (show ((n : Nat) : Int).natAbs < 1000 by omega) (by decide)
  simp only [intsR, List.mem_cons, List.not_mem_nil, or_false] at hm
  rcases hm with rfl | rfl | rfl | rfl
  · exact s _ h1
  · exact s _ h2
  · exact s _ h3
  · exact Nat.lt_of_lt_of_le h4 (by decide)
section
variable {K : PySem.W.Frag} {σ : L2.St} {H : Hp} {te ta tb : TE} {n m l j : Nat} {p : Addr} {zs : List (Addr × Row4)} {z : Addr × Row4}
theorem pX.same {H H' : Hp} {y : V} (h : pX K H y) (S : Same H H') : pX K H' y := h.elim fun d ⟨t, b⟩ => ⟨d, t.same S, b⟩
/-- tests whose answer is known -/
def Yq (b : Bool) (tt : TT) (σ : L2.St) (H : Hp) : Prop := ∀ H1, Same H H1 → ∀ Q : Bool → Hp → Prop, (∀ H2, Same H1 H2 → Q b H2) → tt σ H1 Q
end
end Bk

namespace Bk
open PySem PySem.Spec PyProof.Rows L2
/-! ### lists of whole numbers of known size, and tests whose answer is known -/
/-- a list of so many whole numbers, none larger than B -/
def RunL (K : PySem.W.Frag) (B n : Nat) : Hp → V → Prop := fun H y => ∃ (a : Addr) (xs : List Int), y = .ref a ∧ SqL K H a (xs.map V.int) ∧ xs.length = n ∧ ∀ z ∈ xs, z.natAbs ≤ B
section
variable {K : PySem.W.Frag} {σ : L2.St} {H : Hp} {te ta tb : TE} {n m l j B : Nat}
theorem RunL.z {y : V} (h : RunL K B n H y) (hB : B < 10 ^ 60) : zLstE K n 61 0 H y := by
  obtain ⟨a, xs, rfl, hs, hl, hb⟩ := h
  exact ⟨xs.map PyData.int, by rw [List.length_map, hl], .lst hs (.ints xs), fun d hd => by
    obtain ⟨z, hz, rfl⟩ := List.mem_map.mp hd
    exact sm_int (Nat.lt_of_le_of_lt (hb z hz) hB)⟩
end
end Bk

namespace Bk
open PySem PySem.Spec PyProof.Rows L2
/-! ### xs.insert(i, y), xs.pop(i), x not in a list of data -/
def rInsL (x : V) (vs : List V) (H : Hp) (Q : VK) : Prop := ∃ (l : Addr) (xs : List V) (i : Int) (y : V), x = .ref l ∧ vs = [.int i, y] ∧ H l = some (.lst xs) ∧ xs.length < sizeLine ∧ 0 ≤ i ∧ i < 2 ^ 63 ∧ Q .non (upd H l (.lst (xs.take i.toNat ++ [y] ++ xs.drop i.toNat)))
end Bk

namespace Bk
open PySem PySem.Spec PyProof.Rows L2
/-! ### expressions whose data is known to the last number -/
def EL (K : PySem.W.Frag) (ds : List PyData) : Hp → V → Prop := fun H y => ∃ (a : Addr) (xs : List V), y = .ref a ∧ H a = some (.lst xs) ∧ ThAll K H xs ds
def ED (K : PySem.W.Frag) (d : PyData) : Hp → V → Prop := fun H y => Th K H y d
def EA (K : PySem.W.Frag) (ds : List PyData) : Hp → List V → Prop := fun H ys => ThAll K H ys ds
section
variable {K : PySem.W.Frag} {σ : L2.St} {H : Hp} {te ta tb : TE} {d : PyData} {ds es : List PyData}
theorem Ye.el (h : Ye (EL K ds) te σ H) : Ye (ED K (.list ds)) te σ H := h.weak fun _ _ ⟨a, xs, e, h, t⟩ => by rw [e]; exact .lst (SqL.of h) t
theorem rep_one {α : Type} (k : Nat) (x : α) : (List.replicate k [x]).flatten = List.replicate k x := by
  induction k with
  | zero => rfl
  | succ k ih => rw [List.replicate_succ, List.replicate_succ, List.flatten_cons, ih]; rfl
end
end Bk

namespace Bk
open PySem PySem.Spec PyProof.Rows L2
/-! ### expressions whose value is known, in places that the heap H0 has not -/
def EK (H0 : Hp) (d : PyData) (H : Hp) (y : V) : Prop := Same H0 H ∧ Tk (newOf H0 H) y d
def EKA (H0 : Hp) (ds : List PyData) (H : Hp) (ys : List V) : Prop := Same H0 H ∧ TkAll (newOf H0 H) ys ds
section
variable {K : PySem.W.Frag} {σ : L2.St} {H H0 : Hp} {te ta tb : TE} {ts : TA} {ds es : List PyData} {d e : PyData}
theorem newUp {H0 H : Hp} {p : Addr} {o : HO} (s : Same H0 H) (hp : H p = none) : newOf H0 (upd H p o) p = some o := newOf_at (by
  cases e : H0 p with
  | none => rfl
  | some x => rw [s _ _ e] at hp; cases hp) upd_same
theorem grow_ek : Grow (EK H0 d) := fun _ _ _ S ⟨s, h⟩ => ⟨s.trans S, Tk.same (newOf_mono S) h⟩
theorem EK.th {y : V} (h : EK H0 d H y) : Th K H y d := (Tk.same (newOf_same _ _) h.2).th
theorem k_int {z : Int} (S0 : Same H0 H) : Ye (EK H0 (.int z)) (tC (.int z)) σ H := fun H1 S Q q => q H1 _ (Same.refl _) ⟨S0.trans S, .int z⟩
theorem k_bl {z : Bool} (S0 : Same H0 H) : Ye (EK H0 (.bool z)) (tC (.bl z)) σ H := fun H1 S Q q => q H1 _ (Same.refl _) ⟨S0.trans S, .bl z⟩
theorem k_str {z : Str} (S0 : Same H0 H) : Ye (EK H0 (.str z)) (tC (.str z)) σ H := fun H1 S Q q => q H1 _ (Same.refl _) ⟨S0.trans S, .str z⟩
theorem k_non (S0 : Same H0 H) : Ye (EK H0 .none) (tC .non) σ H := fun H1 S Q q => q H1 _ (Same.refl _) ⟨S0.trans S, .non⟩
theorem k_dict (S0 : Same H0 H) : Ye (EK H0 (.dict [])) tDNewK σ H := fun H1 S Q q p hp => q _ _ (same_upd hp) ⟨(S0.trans S).trans (same_upd hp), .dic (newUp (S0.trans S) hp)⟩
theorem k_ofI {z : Int} (S0 : Same H0 H) (h : Ye (IntD fun i => i = z) te σ H) : Ye (EK H0 (.int z)) te σ H := fun H1 S Q q => h H1 S _ fun H2 y S2 ⟨i, e, e2⟩ => q H2 _ S2 ⟨S0.trans (S.trans S2), by
  rw [e, e2]
  exact .int z⟩
theorem ka_nil (S0 : Same H0 H) : Ya (EKA H0 []) tNil σ H := fun H1 S Q q => q H1 _ (Same.refl _) ⟨S0.trans S, .nil⟩
theorem ka_cons (he : Ye (EK H0 d) te σ H) (ha : Ya (EKA H0 ds) ts σ H) : Ya (EKA H0 (d :: ds)) (tCons te ts) σ H :=
  fun H1 S Q q => he H1 S _ fun H2 y S2 h => ha H2 (S.trans S2) _ fun H3 ys S3 t => q H3 _ (S2.trans S3) ⟨t.1, .cons (grow_ek _ _ _ S3 h).2 t.2⟩
theorem k_lst (ha : Ya (EKA H0 ds) ts σ H) (hn : ds.length ≤ 100000 := by simp only [List.length_cons, List.length_nil]; decide) : Ye (EK H0 (.list ds)) (tLst ts) σ H :=
  fun H1 S Q q => ha H1 S _ fun H2 ys S2 t => ⟨sz100 (by rw [t.2.length]; exact hn), fun p hp => q _ _ (S2.trans (same_upd hp)) ⟨t.1.trans (same_upd hp), .lst (newUp t.1 hp) (t.2.same (newOf_mono (same_upd hp)))⟩⟩
theorem k_tup (ha : Ya (EKA H0 ds) ts σ H) (hn : ds.length ≤ 100000 := by simp only [List.length_cons, List.length_nil]; decide) : Ye (EK H0 (.tuple ds)) (tTup ts) σ H :=
  fun H1 S Q q => ha H1 S _ fun H2 ys S2 t => ⟨sz100 (by rw [t.2.length]; exact hn), fun p hp => q _ _ (S2.trans (same_upd hp)) ⟨t.1.trans (same_upd hp), .tup (newUp t.1 hp) (t.2.same (newOf_mono (same_upd hp)))⟩⟩
theorem k_get {H : Hp} {xs : List V} {ds : List PyData} {i : Nat} {d : PyData} (h : TkAll H xs ds) (e : ds[i]? = some d) : ∃ v, xs[i]? = some v ∧ Tk H v d := by
  induction i generalizing xs ds with
  | zero =>
    cases h with
    | nil => cases e
    | cons h t => cases e; exact ⟨_, rfl, h⟩
  | succ i ih =>
    cases h with
    | nil => cases e
    | cons h t => exact ih t e
theorem k_ix {i : Nat} {z : Int} (ha : Ye (EK H0 (.list ds)) ta σ H) (hb : Ye (IntD fun k => k = z) tb σ H) (hz : z = (i : Int)) (hd : ds[i]? = some d) : Ye (EK H0 d) (tOp (rIxL K) ta tb) σ H := by
  refine fun H1 S Q q => ha H1 S _ fun H2 y S2 h => hb H2 (S.trans S2) _ fun H3 w S3 ⟨k, e2, pk⟩ => ?_
  rw [hz] at pk
  subst pk e2
  obtain ⟨s3, h3⟩ := grow_ek _ _ _ S3 h
  cases h3 with
  | @lst a xs _ hs t =>
    obtain ⟨v, hv, hvd⟩ := k_get t hd
    exact ⟨a, xs, (i : Int), v, rfl, rfl, SqL.of (newOf_same _ _ _ _ hs), atI_nat hv, q H3 _ (S2.trans S3) ⟨s3, hvd⟩⟩
theorem k_listOf (h : Ye (EK H0 (.tuple ds)) te σ H) : Ye (EK H0 (.list ds)) (tCB (rListOf K) (tCons te tNil)) σ H := by
  refine fun H1 S Q q => h H1 S _ fun H2 y S2 ⟨s2, t⟩ => ?_
  cases t with
  | tup hs ha => exact ⟨_, _, rfl, .inr (SqT.of (newOf_same _ _ _ _ hs)), fun l hl => q _ _ (S2.trans (same_upd hl)) ⟨s2.trans (same_upd hl), .lst (newUp s2 hl) (ha.same (newOf_mono (same_upd hl)))⟩⟩
theorem k_app {H : Hp} {ys : List V} {es : List PyData} (h2 : TkAll H ys es) : ∀ {xs : List V} {ds : List PyData}, TkAll H xs ds → TkAll H (xs ++ ys) (ds ++ es)
  | _, _, .nil => h2
  | _, _, .cons h t => .cons h (k_app h2 t)
theorem k_catT (ha : Ye (EK H0 (.tuple ds)) ta σ H) (hb : Ye (EK H0 (.tuple es)) tb σ H) (h1 : ds ≠ []) (h2 : es ≠ []) (hz : ds.length + es.length ≤ 100000 := by simp only [List.length_cons, List.length_nil]; decide) : Ye (EK H0 (.tuple (ds ++ es))) (tOp (rCatA K) ta tb) σ H := by
  refine fun H1 S Q q => ha H1 S _ fun H2 y S2 t => hb H2 (S.trans S2) _ fun H3 z S3 t2 => ?_
  obtain ⟨s3, t3⟩ := grow_ek _ _ _ S3 t
  obtain ⟨_, t2'⟩ := t2
  cases t3 with
  | @tup a xs _ hs ha =>
    cases t2' with
    | @tup b ys _ hs2 ha2 =>
      have hx : xs ≠ [] := fun z => by subst z; cases ha; exact h1 rfl
      have hy : ys ≠ [] := fun z => by subst z; cases ha2; exact h2 rfl
      exact ⟨a, b, xs, ys, rfl, rfl, SqT.of (newOf_same _ _ _ _ hs), SqT.of (newOf_same _ _ _ _ hs2), sz100 (by rw [ha.length, ha2.length]; exact hz), fun z => absurd z hx, fun _ z => absurd z hy, fun _ _ p hp => q _ _ ((S2.trans S3).trans (same_upd hp)) ⟨s3.trans (same_upd hp), .tup (newUp s3 hp) ((k_app ha2 ha).same (newOf_mono (same_upd hp)))⟩⟩
theorem k_take {H : Hp} : ∀ {xs : List V} {ds : List PyData} (n : Nat), TkAll H xs ds → TkAll H (xs.take n) (ds.take n)
  | _, _, 0, _ => .nil
  | _, _, n + 1, .nil => .nil
  | _, _, n + 1, .cons h t => .cons h (k_take n t)
theorem k_sl3 (h : Ye (EK H0 (.tuple ds)) te σ H) (hl : ds.length = 4) : Ye (EK H0 (.tuple (ds.take 3))) (tSl (rSlA K) te tNoPart (tPart (tC (.int 3)))) σ H := by
  refine fun H1 S Q q => h H1 S _ fun H2 y S2 ⟨s2, t⟩ => ⟨3, rfl, ?_⟩
  cases t with
  | @tup a xs _ hs ha =>
    have hxl := ha.length
    refine ⟨a, xs, rfl, SqT.of (newOf_same _ _ _ _ hs), fun z => absurd z ?_, fun _ p hp => ?_⟩
    · rw [hxl, hl]
      decide
    · rw [show cutV xs none (some 3) = xs.take 3 from cutV_upto xs 3]
      exact q _ _ (S2.trans (same_upd hp)) ⟨s2.trans (same_upd hp), .tup (newUp s2 hp) ((k_take 3 ha).same (newOf_mono (same_upd hp)))⟩
end
end Bk

namespace Bk
open PySem PySem.Spec PyProof.Rows L2
/-! ### a def that is called in an except suite, and is handed the caught error -/
/-- a def's promise where the error at a is being handled: it raises nothing -/
def RunE (P : Program) (w : World) (K : PySem.W.Frag) (mg : Str → Option Value) (base : Heap) (k : Nat) (f : Addr) (fd : FuncData) (ps : List Str) (sp : Sp) : Prop :=
  (∀ vs H Q E, sp vs H Q E → vs.length = ps.length) ∧
  ∀ (A : Around) (a : Addr) (outer : List Env) (s : Shared) (H : Hp) (args : Args) (us : List Value) (vs : List V) (Q : VK), Room k A → Env0 P w K mg base A outer s H → BindsTo s fd args (ps.zip us) → Vals vs us → sp vs H Q E0 →
    codeAny (model P w) (A.mark (some (.ref a))) (.call (.ref f) args) (fun r s' => ∃ u, r = .ok (.ret u) ∧ CE outer P w H s Q u s') s
theorem runE_of {P : Program} {w : World} {K : PySem.W.Frag} {mg : Str → Option Value} {base : Heap} {x qual : Str} {st : Stmt} {f : Addr} {fd : FuncData} {N ps : List Str} {k : Nat} {sp : Sp} (F : Fun K x qual st f fd) (S : FnScope N ps (defScope st))
    (len : ∀ vs H Q E, sp vs H Q E → vs.length = ps.length)
    (body : ∀ (cdv : Value) (A : Around) (a : Addr) (outer : List Env) (s : Shared) (H : Hp) (vs : List V) (Q : VK), Room k (A.deeper (envOfC qual (defScope st) s.heap.objs.size f cdv)) → sp vs H Q E0 →
      ∃ t, PSs ((cxOf CX0 P w K mg base N qual (defScope st) f cdv A outer s H E0).suite a []) (defBody st) t ∧ t { nx := fun _ H' => Q .non H', rt := Q } (L2.start N vs) H) : RunE P w K mg base (k + 1) f fd ps sp := by
  obtain ⟨oc, od, kV, doc, pm, an, cdv, ct, osl, rfl, lk, hcd⟩ := F.ex
  refine ⟨len, fun A a outer s H args us vs Q hr e0 hb r hs => ?_⟩
  have up : ∀ b o, base.get? b = some o → s.heap.get? b = some o := fun b o e => (e0.bs b o e).1
  have kin : K.In s.heap := e0.mod.kin.keeps up
  have places : ∀ y ∈ ps.zip us, (defScope st).names.lookup y.1 = some .local ∨ ((defScope st).names.lookup y.1 = some .cell ∧ ((cellsFrom (s.heap.objs.size + 1) (defScope st).names []).lookup y.1).isSome = true) := by
    rintro ⟨n, v⟩ hy
    exact (S.par n (List.of_mem_zip hy).1).elim .inl fun q => .inr ⟨q, PySem.W.cellsFrom_some _ _ _ (.inl q)⟩
  refine codeAny_call_function (A := A.mark (some (.ref a))) hr.depth (kin _ _ lk) rfl S.co S.gen rfl (PySem.W.codeRec_of kin hcd) (hb _ _ _ _ (wpAny_newFunctionEnv_cells S.kind places fun env he s1 z => ?_))
  subst he
  refine ⟨(e0.mod.nolimit.keeps up).keeps z.toInCall.keep, codeAny_func ?_⟩
  obtain ⟨t, ht, ht2⟩ := body cdv A a outer s H vs Q (hr.deeper _) hs
  have J := inv_start (CX := CX0) (E := E0) S hr.hd e0 (len _ _ _ _ hs) r z
  have J1 : Inv ((cxOf CX0 P w K mg base N qual (defScope st) f cdv A outer s H E0).suite a []) [] (L2.start N vs) H s1 := ⟨J.ok.suite _ _, J.os, J.bare, J.base, J.loc, J.cell, J.free, J.freeC, fun p hp => (nomatch hp), J.hok, J.len⟩
  refine wpAny_mono (ht.run [] s1 _ H _ J1 ht2) (fun fl s' g => ?_) fun _ _ g => False.elim g
  cases fl with
  | next =>
    obtain ⟨_, H', J', q⟩ := g
    exact ⟨_, rfl, .non, H', J'.os, J'.bare, J'.base, J'.hok, rfl, q⟩
  | ret u =>
    obtain ⟨v, _, H', J', rv, q⟩ := g
    exact ⟨_, rfl, v, H', J'.os, J'.bare, J'.base, J'.hok, rv, q⟩
  | brk =>
    obtain ⟨_, _, _, q⟩ := g
    exact q.elim
  | cont =>
    obtain ⟨_, _, _, q⟩ := g
    exact q.elim
structure DefE (P : Program) (w : World) (K : PySem.W.Frag) (mg : Str → Option Value) (base : Heap) (x : Str) (k : Nat) (ps : List Str) (sp : Sp) : Prop where
  ex : ∃ (f : Addr) (fd : FuncData), mg x = some (.ref f) ∧ PySem.W.keepIn K (.ref f) = true ∧ Binds K fd ps [] ∧ RunE P w K mg base k f fd ps sp
theorem pe_callDE {X : Cx} {a : Addr} {pn : List (Addr × Obj)} {x : Str} {k j : Nat} {ps : List Str} {sp : Sp} {e : Expr} {es : List Expr} {t : TA} {p pos : Pos} (D : DefE X.prog X.w X.K X.mg X.base x k ps sp) (hr : Room j X.A) (hg : Gl (X.suite a pn) x) (ha : PA (X.suite a pn) (e :: es) t)
    (hkj : k ≤ j := by omega) (hdb : (x == ("__debug__" : Str)) = false := by decide) (he : starEach (e :: es) X.env = (false, eval e X.env) :: starEach es X.env := by rfl) (hpl : (backTo pos (starEach es X.env)).any (·.1) = false := by rfl) :
    PE (X.suite a pn) (.Call (.Name x p) (e :: es) [] pos) (tCall sp [] E0 t) := by
  obtain ⟨f, fd, hm, hk, hb, F⟩ := D.ex
  constructor
  intro pins s σ H Q I h
  apply wpAny_Call_Name_kw
  refine ld_glob I hg hm ?_ hdb
  refine PySem.W.callWith_K (h₀ := X.base) I.ok.mod.kin hk ?_ he hpl
  refine thn (ha.run pos pins s σ H _ I h) ?_
  rintro us s1 ⟨vs, H1, I1, r, q⟩
  refine ⟨I1.kIn, ?_⟩
  have q' : sp vs H1 Q E0 := by simpa using q
  have hl : us.length = ps.length := by rw [← r.length]; exact F.1 _ _ _ _ q'
  have B := hb s1 us I1.kIn (by simpa using hl)
  rw [List.append_nil] at B
  apply wpAny_call
  have e1 := I1.env0
  have e0 : Env0 X.prog X.w X.K X.mg X.base X.A X.stack s1 H1 := ⟨e1.frames, e1.mod, e1.bs, e1.bsz, e1.funs, e1.frf, e1.hok, e1.bare⟩
  refine codeAny_mono (F.2 X.A a X.stack s1 H1 ⟨us, []⟩ us vs Q (hr.mono hkj) e0 B r q') ?_
  rintro z s' ⟨u, rfl, hq⟩
  exact I1.after hq
/-- a try whose suite may look at the error that it keeps -/
def wKeepT (K : PySem.W.Frag) (c : Value) (i : Nat) (ts : Addr → Value → Option Addr → TS) (Wout : WX) (D : Ends) : WX := fun cls d σ H =>
  ∃ b, PySem.W.exmOne K cls c = some b ∧ (b = false → Wout cls d σ H) ∧ (b = true → ∀ a, H a = none →
    ts a cls d { nx := fun σ' H' => D.nx (σ'.set i none) H', rt := fun _ _ => False, bk := fun _ _ => False, ct := fun _ _ => False } (σ.set i (some (.ref a))) (upd H a (ExK cls d a)))
section
variable {X : Cx}
theorem ps_try_keepT {x n : Str} {i : Nat} {c : Value} {tb : WX → TS} {ts : Addr → Value → Option Addr → TS} {Wout : WX} {body suite : List Stmt} {st : Stmt} {np pos pos' : Pos}
    (hst : X.stack = X.env :: X.outer) (hfl : X.env.frame = some X.env.locals) (hN : X.N.Nodup) (hi : X.N[i]? = some n) (hln : X.env.kindOf n = some .local) (hc : Names X x c) (tk : Takes X Wout)
    (hb : ∀ (W : WX) (pn : List (Addr × Obj)) (xe : Value → Shared → Prop), Takes (X.tr pn xe) W → PassesOwn (model X.prog X.w) X.A X.env xe → PSs (X.tr pn xe) body (tb W))
    (hsu : ∀ (a : Addr) (oe : Obj) (cls : Value) (d : Option Addr) (pn : List (Addr × Obj)), Zc cls d oe → (∃ vs, oe.data = .fields vs) → PSs (X.suite a pn) (st :: suite) (ts a cls d)) :
    PS X (.Try body [.ExceptHandler (some (.Name x np)) (some n) (st :: suite) pos'] [] [] pos) (fun D σ H => tb (wKeepT X.K c i ts Wout D) D σ H) := by
  refine ⟨fun pins s σ H D I h => ?_⟩
  have ok := I.ok
  have hfrm : X.A.frames = some (X.env :: X.outer) := by rw [ok.frames, hst]
  refine wpAny_Try_except ?_
  have hrun := (hb (wKeepT X.K c i ts Wout D) (X.pn ++ pins) (fun e s₁ => wpAny (model X.prog X.w) X.A (noteFrame e X.env)
      (fun _ s₂ => wpAny (model X.prog X.w) X.A (setFlight e none)
        (fun _ s₃ => wpAny (model X.prog X.w) X.A (handleBy e X.env [.ExceptHandler (some (.Name x np)) (some n) (st :: suite) pos']) (SP X pins D) X.xe s₃) X.xe s₂) X.xe s₁)
      (fun u s' xx => ?_) PassesOwn.looking).run [] s σ H D (I.toTry _) h
  · refine wpAny_mono hrun (fun f s1 hsp => ?_) (fun _ _ he => he)
    cases f with
    | next =>
      obtain ⟨σ', H', J', q⟩ := hsp
      exact wpAny_execs_nil ⟨_, _, J'.ofTry ok, q⟩
    | ret u =>
      obtain ⟨v, σ', H', J', r, q⟩ := hsp
      exact ⟨_, _, _, J'.ofTry ok, r, q⟩
    | brk =>
      obtain ⟨σ', H', J', q⟩ := hsp
      exact ⟨_, _, J'.ofTry ok, q⟩
    | cont =>
      obtain ⟨σ', H', J', q⟩ := hsp
      exact ⟨_, _, J'.ofTry ok, q⟩
  · obtain ⟨a, B, sI, pins', σ', H', cls, d, rfl, J', nb, up, sky, na, os, ag, b, hb1, hno, hyes⟩ := xx
    have J : Inv X pins σ' H' sI := J'.ofTry ok
    rw [show (X.tr (X.pn ++ pins) _).stack = X.env :: X.outer from hst] at sky
    refine Sky.land Zc.steady hfrm hfl sky fun h3 fl3 up3 => ?_
    have J3 : Inv X pins σ' H' { s' with heap := h3 } := J.landed nb fl3.1 (up.trans up3) os ag
    obtain ⟨oe3, vs3, he3, hz3, hd3⟩ := fl3.there
    have nfr : a ∉ frs (X.env :: X.outer) := fun hm => by
      obtain ⟨_, o', e', hnf⟩ := fl3.2.2.1.mem hm
      rw [he3] at e'
      cases e'
      exact hnf _ hd3
    have nL : a ≠ X.env.locals := fun z => nfr (List.mem_filterMap.mpr ⟨X.env, List.mem_cons_self, by rw [hfl, z]⟩)
    have nF : a ∉ X.fs := fun hm => by
      obtain ⟨e, he, q⟩ := List.mem_filterMap.mp hm
      exact nfr (List.mem_filterMap.mpr ⟨e, List.mem_cons_of_mem _ he, q⟩)
    have nsI : sI.heap.get? a = none := by
      cases e : sI.heap.get? a with
      | none => rfl
      | some o =>
        have e2 := nb a o e (by rw [show (X.tr (X.pn ++ pins) _).stack = X.env :: X.outer from hst]; exact nfr)
        rw [fl3.2.1] at e2
        cases e2
    have n0 : ∀ o, X.s_0.heap.get? a = some o → a ∈ X.ex := fun o e => by
      apply Classical.byContradiction
      intro hx
      obtain ⟨o', e'⟩ := J.base.there a o e hx
      rw [nsI] at e'
      cases e'
    have npin : ∀ p ∈ X.pn ++ pins, p.1 ≠ a := fun p hp z => by
      have e' := (J.pin p hp).1
      rw [z, nsI] at e'
      cases e'
    have S3 := J3.suite he3 hd3 na nL nF
    refine wpAny_handleBy_cons (codeAny_handlers_test ?_) (fun q => by cases q)
    have LT : PySem.W.Looks (model X.prog X.w) h3 (typeOf (.ref a)) cls := fun A Q E s k q => wpAny_typeOf_ref (k _ _ he3) (by rw [hz3.1]; exact q)
    have LM := PySem.W.exm_one (M := model X.prog X.w) (J3.kIn) LT hb1
    have test : ∀ {Q E : Value → Shared → Prop}, Q c { s' with heap := h3 } →
        wpAny (model X.prog X.w) (X.A.mark (some (.ref a))) (eval (.Name x np) X.env) Q E { s' with heap := h3 } := fun {Q E} q => by
      rcases hc with ⟨hg, hdbg, hm | ⟨hm, hv, hnn⟩⟩
      · exact ld_glob (X := X.suite a ((a, oe3) :: (X.pn ++ pins))) S3 hg hm q hdbg
      · exact ld_blt (X := X.suite a ((a, oe3) :: (X.pn ++ pins))) S3 hg hm hv q hnn hdbg
    refine test (LM.here ?_)
    cases b with
    | false =>
      refine wpAny_handleBy_nil ?_
      obtain ⟨k1, k2, k3, oe, vs, T, oT, ts', he, hz, hd, h1, hr⟩ := id fl3
      unfold PySem.passOn
      refine wpAny_bind (wpAny_field he hd h1 ?_)
      rw [if_neg (show ¬ ((Value.ref T == Value.none) = true) by simp)]
      have fin : wpAny (model X.prog X.w) X.A (setFlight (.ref a) X.env.frame)
          (fun _ s4 => wpAny (model X.prog X.w) X.A (throw (.ref a) : Sem Flow) (SP X pins D) X.xe s4) X.xe { s' with heap := h3 } := by
        rw [hfl]
        refine HandSPX.setFlight_upZ fl3 fun h4 hh4 up4 => wpAny_throw (tk _ _ ⟨a, B, sI, pins, σ', H', cls, d, rfl, J, fun b o e hb => nb b o e hb, (up.trans up3).trans up4, .inr (.inr ?_), na, os, ag, hno rfl⟩)
        rw [hst]
        exact hh4
      first
        | exact wpAny_bind (wpAny_pure (wpAny_bind fin))
        | exact wpAny_bind fin
    | true =>
      refine codeAny_handlers_suite_as ?_
      refine HandSPX.lands_againZ fl3 fun h4 fl4 up4 => ?_
      have J4 : Inv X pins σ' H' { s' with heap := h4 } := J.landed nb fl4.1 ((up.trans up3).trans up4) os ag
      obtain ⟨oe4, vs4, he4, hz4, hd4⟩ := fl4.there
      have JT := track J4 he4 hz4 hd4 na nL n0 npin
      have S4 : Inv (X.suite a (X.pn ++ pins)) [] σ' (upd H' a (ExK cls d a)) { s' with heap := h4 } :=
        ⟨JT.ok.suite _ _, JT.os, JT.bare, JT.base, JT.loc, JT.cell, JT.free, JT.freeC, fun p hp => JT.pin p (by rw [List.append_nil] at hp; exact hp), JT.hok, JT.len⟩
      refine store_ok (X := X.suite a (X.pn ++ pins)) (v := .ref a) S4 hN hi (.inl hln) rfl (fun s5 S5 => ?_) (.inr hln)
      have hsuite := (hsu a oe4 cls d (X.pn ++ pins) hz4 ⟨_, hd4⟩).run [] s5 _ _ _ S5 (hyes rfl a na)
      refine wpAny_mono hsuite (fun f s6 hsp => ?_) (fun _ _ z => z.elim)
      cases f with
      | next =>
        obtain ⟨σ6, H6, S6, q6⟩ := hsp
        have J6 : Inv X pins σ6 H6 s6 := ⟨ok, S6.os, S6.bare, S6.base, S6.loc, S6.cell, S6.free, S6.freeC, fun p hp => S6.pin p (List.mem_append_left _ hp), S6.hok, S6.len⟩
        exact gone_ok J6 hN hi hln fun s7 J7 => ⟨_, _, J7, q6⟩
      | brk =>
        obtain ⟨_, _, _, q6⟩ := hsp
        exact q6.elim
      | cont =>
        obtain ⟨_, _, _, q6⟩ := hsp
        exact q6.elim
      | ret u =>
        obtain ⟨_, _, _, _, _, q6⟩ := hsp
        exact q6.elim
end
end Bk

namespace Bk
open PySem PySem.Spec PyProof.Rows L2
/-! ### how often a list of truths holds True -/
theorem readsB {h : Heap} : ∀ {bs : List Bool} {us : List Value}, Vals (bs.map V.bl) us → ReadsAll h us (bs.map PyData.bool) []
  | [], us, r => by
    cases r
    exact .nil
  | b :: t, us, r => by
    cases r with
    | cons h1 h2 =>
      have e : _ = Value.bool b := h1
      rw [e]
      exact .cons (.bool b) (readsB h2)
theorem plainB : ∀ bs : List Bool, PyData.plainAll (bs.map PyData.bool) = true
  | [] => rfl
  | b :: t => by
    have := plainB t
    simp only [List.map_cons, PyData.plainAll, PyData.plain, this, Bool.and_self]
theorem countB (bs : List Bool) : ((bs.map PyData.bool).countP fun y => PyData.eqv y (.bool true)) = bs.count true := by
  rw [List.countP_map]
  unfold List.count
  congr 1
def rCntB (K : PySem.W.Frag) : V → List V → Hp → VK → Prop := fun x xs H Q => ∃ (p : Addr) (bs : List Bool), x = .ref p ∧ xs = [.bl true] ∧ SqL K H p (bs.map V.bl) ∧ Q (.int ((bs.count true : Nat) : Int)) H
theorem rCntB_r {K : PySem.W.Frag} {p : Addr} {H : Hp} {Q : VK} : rCntB K (.ref p) [.bl true] H Q = ∃ bs : List Bool, SqL K H p (bs.map V.bl) ∧ Q (.int ((bs.count true : Nat) : Int)) H := propext ⟨fun ⟨_, bs, e, _, h⟩ => by cases e; exact ⟨bs, h⟩, fun ⟨bs, h⟩ => ⟨p, bs, rfl, rfl, h⟩⟩
theorem mt_countB {X : Cx} (hu : X.A.units + 64 < cLine) : MtR X "list.count" (rCntB X.K) := by
  intro pins s σ H x xs v us Q I rx rxs h
  obtain ⟨p, bs, rfl, rfl, hs, q⟩ := h
  cases rx
  obtain ⟨u, rfl, ru⟩ := rxs.one
  have eu : u = Value.bool true := ru
  subst eu
  obtain ⟨its, rv, hl, hz⟩ := I.list hs
  refine SeqAt.count_list_data (xs := bs.map PyData.bool) (as := []) (d := .bool true) (bs := []) hl.isList (by rw [List.toList_toArray]; exact readsB rv) (.bool true) (plainB bs) rfl (by simp only [PyData.depth]; omega) ?_
  rw [countB]
  exact ⟨.int _, H, I.tok _, ⟨s.toks, rfl⟩, q⟩
/-! ### str(..) of a tuple -/
def rStrT (K : PySem.W.Frag) : List V → Hp → VK → Prop := fun xs H Q => ∃ a d, xs = [.ref a] ∧ Th K H (.ref a) d ∧ NoSys K H ∧ ShowsM d ∧ Q (.str d.shown) H
theorem rStrT_r {K : PySem.W.Frag} {a : Addr} {H : Hp} {Q : VK} : rStrT K [.ref a] H Q = ∃ d, Th K H (.ref a) d ∧ NoSys K H ∧ ShowsM d ∧ Q (.str d.shown) H := propext ⟨fun ⟨y, d, e, h⟩ => by cases e; exact ⟨d, h⟩, fun ⟨d, h⟩ => ⟨a, d, rfl, h⟩⟩
end Bk

namespace Bk
open PySem PySem.Spec PyProof.Rows L2
/-! ### t > u, of tuples of numbers -/
def gtL (us vs : List Int) : Bool := Ob.lexAt (fun i => decide (us.getD i 0 = vs.getD i 0)) (fun i => decide (vs.getD i 0 < us.getD i 0)) (decide (vs.length < us.length)) 0 (min us.length vs.length)
def rGtT (K : PySem.W.Frag) : R2 := fun x y H Q => ∃ (p q : Addr) (us vs : List Int), x = .ref p ∧ y = .ref q ∧ SqT K H p (us.map V.int) ∧ SqT K H q (vs.map V.int) ∧ Q (.bl (gtL us vs)) H
theorem rGtT_r {K : PySem.W.Frag} {p q : Addr} {H : Hp} {Q : VK} : rGtT K (.ref p) (.ref q) H Q = ∃ us vs, SqT K H p (us.map V.int) ∧ SqT K H q (vs.map V.int) ∧ Q (.bl (gtL us vs)) H :=
  propext ⟨fun ⟨_, _, us, vs, e1, e2, h⟩ => by cases e1; cases e2; exact ⟨us, vs, h⟩, fun ⟨us, vs, h⟩ => ⟨p, q, us, vs, rfl, rfl, h⟩⟩
end Bk

namespace Bk
open PySem PySem.Spec PyProof.Rows L2
/-! ### sorted(.., reverse=True) of a list of tuples of whole numbers -/
def rSorTR (K : PySem.W.Frag) : List V → List V → Hp → VK → Prop := fun xs zs H Q => ∃ (a : Addr) (L : List (Addr × List Int)), xs = [.ref a] ∧ zs = [.bl true] ∧ SqL K H a (L.map fun q => V.ref q.1) ∧ (∀ q ∈ L, H q.1 = some (.tup (q.2.map V.int))) ∧ (∀ q ∈ L, q.2 ≠ []) ∧
  ∀ (L' : List (Addr × List Int)) (p : Addr), L'.Perm L → L'.Pairwise (fun p q => q.2 ≤ p.2) → H p = none → Q (.ref p) (upd H p (.lst (L'.map fun q => V.ref q.1)))
theorem rSorTR_r {K : PySem.W.Frag} {a : Addr} {H : Hp} {Q : VK} : rSorTR K [.ref a] [.bl true] H Q = ∃ (L : List (Addr × List Int)), SqL K H a (L.map fun q => V.ref q.1) ∧ (∀ q ∈ L, H q.1 = some (.tup (q.2.map V.int))) ∧ (∀ q ∈ L, q.2 ≠ []) ∧
  ∀ (L' : List (Addr × List Int)) (p : Addr), L'.Perm L → L'.Pairwise (fun p q => q.2 ≤ p.2) → H p = none → Q (.ref p) (upd H p (.lst (L'.map fun q => V.ref q.1))) := propext ⟨fun ⟨_, L, e, _, h⟩ => by cases e; exact ⟨L, h⟩, fun ⟨L, h⟩ => ⟨a, L, rfl, rfl, h⟩⟩
end Bk

namespace Bk
open PySem PySem.Spec PyProof.Rows L2
/-! ### texts taken apart -/
/-- a number that a word can tell, or None -/
def WO (o : Option Int) : Prop := ∀ i, o = some i → 0 ≤ i ∧ i < 10000000000
theorem tl_dash : TL.tl ("-" : Str) = [45] := by decide
def tlW : Option Int → List Nat
  | none => [45]
  | some i => TL.numL i.toNat
theorem tl_some {i : Int} (h : 0 ≤ i) : TL.tl (toString i : Str) = TL.numL i.toNat := by
  obtain ⟨n, rfl⟩ : ∃ n : Nat, i = (n : Int) := ⟨i.toNat, by omega⟩
  exact TL.tl_num n
theorem tl_word {o : Option Int} (h : WO o) : TL.tl (wordO o) = tlW o := by
  cases o with
  | none => exact tl_dash
  | some i => exact tl_some (h i rfl).1
theorem word_free {o : Option Int} (h : WO o) {s : Nat} (hs : s < 45) : s ∉ TL.tl (wordO o) := by
  rw [tl_word h]
  cases o with
  | none =>
    intro z
    have : s = 45 := List.mem_singleton.mp z
    omega
  | some i => exact TL.numL_free (.inl (by omega))
theorem split_nl {parts : List Str} (hne : parts ≠ []) (hp : ∀ p ∈ parts, 10 ∉ TL.tl p) : Txt.split (Txt.join "\n" parts) "\n" = parts :=
  TL.split_join (y := "\n") (s := 10) (S := []) (by decide) (by decide +kernel) hne hp
/-- rows hold no end of a row -/
theorem joinL_mem {S : List Nat} {x : Nat} : ∀ {ps : List (List Nat)}, x ∈ TL.joinL S ps → x ∈ S ∨ ∃ p ∈ ps, x ∈ p
  | [], h => nomatch h
  | [p], h => .inr ⟨p, List.mem_cons_self, h⟩
  | p :: q :: r, h => by
    have h : x ∈ p ++ (S ++ TL.joinL S (q :: r)) := h
    rcases List.mem_append.mp h with h | h
    · exact .inr ⟨p, List.mem_cons_self, h⟩
    rcases List.mem_append.mp h with h | h
    · exact .inl h
    · rcases joinL_mem (ps := q :: r) h with h | ⟨y, hy, h⟩
      · exact .inl h
      · exact .inr ⟨y, List.mem_cons_of_mem _ hy, h⟩
theorem row_free {l : List (Option Int)} (h : ∀ o ∈ l, WO o) : 10 ∉ TL.tl (rowO l) := by
  unfold rowO
  rw [TL.join_eq, TL.tl_join]
  intro z
  rcases joinL_mem z with z | ⟨p, hp, z⟩
  · revert z
    decide
  · obtain ⟨q, hq, rfl⟩ := List.mem_map.mp hp
    obtain ⟨o, ho, rfl⟩ := List.mem_map.mp hq
    exact word_free (h o ho) (by decide) z
theorem app_free {a b : Str} (h1 : 10 ∉ TL.tl a) (h2 : 10 ∉ TL.tl b) : 10 ∉ TL.tl (a ++ b) := by
  rw [TL.tl_append]
  intro z
  rcases List.mem_append.mp z with z | z
  · exact h1 z
  · exact h2 z
def rIntS : List V → Hp → VK → Prop := fun xs H Q => ∃ a n, xs = [.str a] ∧ PySem.intText? a = some n ∧ a.length ≤ 640 ∧ Q (.int n) H
theorem rIntS_r {a : Str} {H : Hp} {Q : VK} : rIntS [.str a] H Q = ∃ n, PySem.intText? a = some n ∧ a.length ≤ 640 ∧ Q (.int n) H := propext ⟨fun ⟨_, n, e, h⟩ => by cases e; exact ⟨n, h⟩, fun ⟨n, h⟩ => ⟨a, n, rfl, h⟩⟩
def rLenS : List V → Hp → VK → Prop := fun xs H Q => ∃ z, xs = [.str z] ∧ z.length ≤ sizeLine ∧ Q (.int z.length) H
theorem rLenS_r {z : Str} {H : Hp} {Q : VK} : rLenS [.str z] H Q = (z.length ≤ sizeLine ∧ Q (.int z.length) H) := propext ⟨fun ⟨_, e, h⟩ => by cases e; exact h, fun h => ⟨z, rfl, h⟩⟩
theorem rIxS_r {z : Str} {i : Int} {H : Hp} {Q : VK} : rIxS (.str z) (.int i) H Q = ∃ c, z.length ≤ sizeLine ∧ atI z.cps.toList i = some c ∧ Q (.str ⟨#[c]⟩) H := propext ⟨fun ⟨_, _, c, e1, e2, h⟩ => by cases e1; cases e2; exact ⟨c, h⟩, fun ⟨c, h⟩ => ⟨z, i, c, rfl, rfl, h⟩⟩
def rInS : R2 := fun x y H Q => ∃ (c : Nat) (z : Str), x = .str ⟨#[c]⟩ ∧ y = .str z ∧ Q (.bl (decide (c ∈ z.cps.toList))) H
theorem rInS_r {c : Nat} {z : Str} {H : Hp} {Q : VK} : rInS (.str ⟨#[c]⟩) (.str z) H Q = Q (.bl (decide (c ∈ z.cps.toList))) H := propext ⟨fun ⟨_, _, e1, e2, h⟩ => by cases e1; cases e2; exact h, fun h => ⟨c, z, rfl, rfl, h⟩⟩
def rSplit : V → List V → Hp → VK → Prop := fun x xs H Q => ∃ a b, x = .str a ∧ xs = [.str b] ∧ (b.length == 0) = false ∧ a.length + 2 ≤ sizeLine ∧ rNewStrs (Txt.split a b) H Q
theorem rSplit_r {a b : Str} {H : Hp} {Q : VK} : rSplit (.str a) [.str b] H Q = ((b.length == 0) = false ∧ a.length + 2 ≤ sizeLine ∧ rNewStrs (Txt.split a b) H Q) := propext ⟨fun ⟨_, _, e1, e2, h⟩ => by cases e1; cases e2; exact h, fun h => ⟨a, b, rfl, rfl, h⟩⟩
theorem iStr_eq {te : TE} {σ : L2.St} {H : Hp} {R : It → Hp → Prop} : iStr te σ H R = te σ H fun v H1 => ∃ x, v = .str x ∧ R (Its x) H1 := rfl
structure WB (b : Bak) : Prop where
  bd : WO b.bound
  li : ∀ z ∈ b.lights, WO (some z)
  go : ∀ g ∈ b.goods, WO g.life ∧ ∀ d ∈ g.days, ∀ o ∈ dayO d, WO o
theorem WB.rows {b : Bak} (h : WB b) : ∀ p ∈ bakRows b, 10 ∉ TL.tl p := by
  intro p hp
  unfold bakRows at hp
  rcases List.mem_cons.mp hp with rfl | hp
  · exact app_free (by decide) (word_free h.bd (by decide))
  rcases List.mem_cons.mp hp with rfl | hp
  · exact app_free (by decide) (row_free fun o ho => by
      obtain ⟨z, hz, rfl⟩ := List.mem_map.mp ho
      exact h.li z hz)
  obtain ⟨rs, hrs, hp⟩ := List.mem_flatten.mp hp
  obtain ⟨g, hg, rfl⟩ := List.mem_map.mp hrs
  obtain ⟨k1, k2⟩ := h.go g hg
  unfold goodRows at hp
  rcases List.mem_cons.mp hp with rfl | hp
  · exact app_free (by decide) (word_free k1 (by decide))
  · obtain ⟨d, hd, rfl⟩ := List.mem_map.mp hp
    exact row_free (k2 d hd)
theorem WB.split {b : Bak} (h : WB b) : Txt.split (bakText b) "\n" = bakRows b := split_nl (List.cons_ne_nil _ _) h.rows
theorem WB.of {b : Bak} (hb : bakB (bakD b) = true) : WB b := by
  obtain ⟨_, h1, h2, _, h3⟩ := bak_parts hb
  refine ⟨fun i e => ?_, fun z hz i e => ?_, fun g hg => ⟨fun i e => ?_, fun d hd o ho i e => ?_⟩⟩
  · rw [e] at h2
    simp only [optD, boundB, numD, Bool.and_eq_true, decide_eq_true_eq] at h2
    omega
  · have e : z = i := Option.some.inj e
    have := h1 z hz
    simp only [numD, Bool.and_eq_true, decide_eq_true_eq] at this
    omega
  · have := (h3 g hg).2.1
    rw [e] at this
    simp only [optD, lifeB, Bool.and_eq_true, decide_eq_true_eq] at this
    omega
  · obtain ⟨n1, n2, n3, n4⟩ := nums_of_day ((h3 g hg).2.2 d hd)
    subst e
    simp only [dayO, List.mem_cons, List.not_mem_nil, or_false, Option.some.injEq] at ho
    rcases ho with rfl | rfl | rfl | ho
    · omega
    · omega
    · omega
    · have := n4 _ ho.symm
      omega
/-! ### words that are written -/
/-! ### the rows of a bakery by their places -/
theorem WO.sm {o : Option Int} (h : WO o) : SmO o := fun i e => by
  have := h i e
  exact Nat.lt_trans (show i.natAbs < 10000000000 by omega) (by decide)
end Bk

namespace Bk
open PySem PySem.Spec PyProof.Rows L2
/-! ### an object whose making is refused, where the refusal is caught -/
structure MakeR (P : Program) (w : World) (K : PySem.W.Frag) (mg : Str → Option Value) (base : Heap) (x : Str) (k : Nat) (C : Addr) (sp : Sp) : Prop where
  ex : ∃ (f : Addr) (fd : FuncData) (ps : List Str), Mk K C f ∧ mg x = some (.ref C) ∧ FnOk P w K mg base (L2.CX P w) k f fd ps sp ∧ Binds K fd ps []
/-- the caller knows: made of these it is refused -/
def tMakeR (C : Addr) (sp : Sp) (E : L2.St → XK) (t : TA) : TE := fun σ H _ => t σ H fun vs H1 => ∀ x dx, H1 x = none → H1 dx = none → dx ≠ x →
  sp (.ref x :: vs) (upd (upd H1 dx (.own x)) x (.ins C dx [])) (fun _ _ => False) (E σ)
section
variable {X : Cx} {k j : Nat} {C : Addr} {x : Str} {sp : Sp} {W : WX} {p pos : Pos} {e : Expr} {es : List Expr} {t : TA}
theorem pe_mkR (D : MakeR X.prog X.w X.K X.mg X.base x k C sp) (tk : Takes X W) (hr : Room j X.A) (hg : Gl X x) (ha : PA X (e :: es) t) (hkj : k + 1 ≤ j := by omega) (hdb : (x == ("__debug__" : Str)) = false := by decide)
    (stars : starEach (e :: es) X.env = (false, eval e X.env) :: starEach es X.env := by rfl) (plain : (backTo pos (starEach es X.env)).any (·.1) = false := by rfl) : PE X (.Call (.Name x p) (e :: es) [] pos) (tMakeR C sp (WE W) t) := by
  obtain ⟨f, fd, ps, hM, hmg, F, hb⟩ := D.ex
  constructor
  intro pins s σ H Q I h
  apply wpAny_Call_Name_kw
  apply ld_glob I hg hmg _ hdb
  apply PySem.W.callWith_K (h₀ := X.base) I.ok.mod.kin hM.kp _ stars plain
  apply thn (ha.run pos pins s σ H _ I h)
  rintro us s1 ⟨vs, H1, I1, r, q⟩
  refine ⟨I1.kIn, ?_⟩
  have made := Inv.made (C := C) I1
  have asked := q _ _ (I1.hok.fresh (Nat.le_succ _)) (I1.hok.fresh (Nat.le_refl _)) (Nat.lt_irrefl _ |> fun z y => z (y ▸ Nat.lt_succ_self _))
  have many : (Value.ref (s1.heap.objs.size + 1) :: us ++ []).length = ps.length := by
    rw [List.append_nil, ← F.len _ _ _ _ asked, List.length_cons, List.length_cons, r.length]
  have bound := hb _ (Value.ref (s1.heap.objs.size + 1) :: us) made.kIn many
  rw [List.append_nil] at bound
  have both : Vals (V.ref (s1.heap.objs.size + 1) :: vs) (Value.ref (s1.heap.objs.size + 1) :: us) := .cons rfl r
  have ran := F.run _ X.stack _ _ _ _ _ _ _ ((hr.mono hkj).make C us []) (made.env0.make C us []) bound both asked
  exact wpAny_call (make_map (f := f) I1.kIn hM.makes hM.init (beq_iff_eq.mp hM.fn) (codeAny_mono ran fun rr s' hq => match rr, hq with
    | .error ee, hq => passAt tk σ pins _ _ ee s' made hq
    | .ok (.ret _), hq => (made.after hq).elim fun _ z => z.elim fun _ z => False.elim z.2.2
    | .ok .next, hq => False.elim hq
    | .ok .brk, hq => False.elim hq
    | .ok .cont, hq => False.elim hq))
end
/-! ### a method with one argument left to its default, refused where this is caught -/
structure MetXD (P : Program) (w : World) (K : PySem.W.Frag) (mg : Str → Option Value) (base : Heap) (k : Nat) (C : Addr) (m : Str) (sp : Sp) (dvs : List V) : Prop where
  ex : ∃ (f : Addr) (fd : FuncData) (ps : List Str) (ds : List Value), Cls K C ∧ Meth K C m f ∧ FnOk P w K mg base (L2.CX P w) k f fd ps sp ∧ Binds K fd ps ds ∧ Vals dvs ds
def tMethWD (C : Addr) (m : Str) (sp : Sp) (dvs : List V) (E : L2.St → XK) (ta : TE) (t : TA) : TE := fun σ H Q => ta σ H fun x H1 => IsObj C m x H1 ∧ t σ H1 fun vs H2 => sp (x :: vs ++ dvs) H2 Q (E σ)
section
variable {X : Cx} {k j : Nat} {C : Addr} {m : Str} {sp : Sp} {dvs : List V} {W : WX} {pos apos : Pos} {e o : Expr} {es : List Expr} {ta : TE} {t : TA}
theorem pe_mtWD {pl : Sem Bool} (c : MetXD X.prog X.w X.K X.mg X.base k C m sp dvs) (tk : Takes X W) (hr : Room j X.A) (hk : k ≤ j) (he : PE X o ta) (ha : PA X (e :: es) t)
    (stars : starEach (e :: es) X.env = (false, eval e X.env) :: starEach es X.env := by rfl) (plain : (backTo pos (starEach es X.env)).any (·.1) = false := by rfl)
    (look : eval (.Call (.Attribute o m apos) (e :: es) [] pos) X.env = (eval o X.env >>= fun ov => standAt apos.atName >>= fun _ => holding [ov] (getMethod ov m pl) >>= fun z => callWith pos z.1 z.2 (backTo pos (starEach (e :: es) X.env)) (backToKw pos (keywordEach [] X.env))) := by rfl) :
    PE X (.Call (.Attribute o m apos) (e :: es) [] pos) (tMethWD C m sp dvs (WE W) ta t) := by
  obtain ⟨f, fd, ps, ds, hc, hm, F, hb, hd⟩ := c.ex
  constructor
  intro pins s σ H Q I h
  apply PySem.W.methodCall_KW (pl := pl) _ look
  apply thn (he.run pins s σ H _ I h)
  rintro u s1 ⟨x, H1, I1, rx, ⟨a, dx, fs, rfl, ea, l⟩, q⟩
  cases rx
  apply getmeth_ok I1 ea hc hm l
  apply PySem.W.callWith_K (first := [.ref a]) (h₀ := X.base) I.ok.mod.kin hm.kp _ stars plain
  apply thn (ha.run pos pins s1 σ H1 _ I1 q)
  rintro us s2 ⟨vs, H2, I2, r, q2⟩
  exact ⟨I2.kIn, run_fnSD (us := .ref a :: us) (vs := .ref a :: vs) F (hr.mono hk) hb hd (passAt tk σ) I2 (.cons rfl r) q2⟩
end
/-- one argument fewer is given: the default stands in -/
theorem binds_def {K : PySem.W.Frag} {x qual : Str} {params : Arguments} {body : List Stmt} {scope : Scope} {v : V} {f : Addr} {fd : FuncData} {ps : List Str} {n : Nat} (F : FunD K x qual params body scope [v] [] f fd) (hn : n + 1 = ps.length)
    (h : ∀ (T : Addr) (kV doc pm : Value) (an : Option Addr) (cdv ct : Value) (us its : List Value), us.length = n → its.length = 1 →
      ∃ k, bindArgs (PySem.W.fnOf x qual params body scope (.ref T) kV doc pm an cdv ct) ⟨us, []⟩ = seqItems? (.ref T) >>= k ∧ k (some its.toArray) = pure (ps.zip (us ++ its.drop 0))) : ∃ ds, Vals [v] ds ∧ Binds K fd ps ds := F.binds1 n 0 (List.cons_ne_nil _ _) hn h
end Bk

namespace Bk
open PySem PySem.Spec PyProof.Rows L2
/-! ### isinstance of the error that its suite holds, whatever its class -/
def rIsS (K : PySem.W.Frag) (cls : Value) (d : Option Addr) (a : Addr) : List V → Hp → VK → Prop := fun xs H Q => ∃ (D : Addr) (c : V) (cv : Value) (b : Bool), cls = .ref D ∧ d = none ∧ ExcC K D ∧ xs = [.ref a, c] ∧ (∀ u, RelV c u → u = cv) ∧ PySem.W.kitOne K (.ref D) cv = some b ∧ Q (.bl b) H
theorem rIsS_r {K : PySem.W.Frag} {cls : Value} {d : Option Addr} {a e : Addr} {c : V} {H : Hp} {Q : VK} : rIsS K cls d a [.ref e, c] H Q = (e = a ∧ ∃ (D : Addr) (cv : Value) (b : Bool), cls = .ref D ∧ d = none ∧ ExcC K D ∧ (∀ u, RelV c u → u = cv) ∧ PySem.W.kitOne K (.ref D) cv = some b ∧ Q (.bl b) H) :=
  propext ⟨fun ⟨D, _, cv, b, e1, e2, e3, e4, h⟩ => by cases e4; exact ⟨rfl, D, cv, b, e1, e2, e3, h⟩, fun ⟨e0, D, cv, b, e1, e2, e3, h⟩ => by subst e0; exact ⟨D, c, cv, b, e1, e2, e3, rfl, h⟩⟩
end Bk

namespace Bk
open PySem PySem.Spec PyProof.Rows L2
/-! ### a list of numbers == [] -/
end Bk

namespace Bk
open PySem PySem.Spec PyProof.Rows L2
/-- a call of nothing -/
theorem pe_callD0 {X : Cx} {x : Str} {k j : Nat} {ps : List Str} {sp : Sp} {p pos : Pos} (D : Def X.prog X.w X.K X.mg X.base x k ps sp) (hr : Room j X.A) (hg : Gl X x)
    (hkj : k ≤ j := by omega) (hdb : (x == ("__debug__" : Str)) = false := by decide) :
    PE X (.Call (.Name x p) [] [] pos) (tCall sp [] E0 tNil) := by
  obtain ⟨f, fd, hm, hk, hb, F⟩ := D.ex
  exact pe_call0 F (hr.mono hkj) hg hm hk hb .nil pass0 hdb
end Bk

namespace Bk
open PySem PySem.Spec PyProof.Rows L2
local macro_rules | `(tactic| walk_at "wp") => `(tactic| try simp only [tNever, tFor_eq, tLc_eq, iList, iTup, iRng1_eq, rRng1_i, iRng2_eq, rRng2_i, iEnum_eq, rEnum_r, iZip_eq, rZip_r, tSl, tPart, tNoPart, rSlL_r, rCat_r, rIn_r, gTup_r, gUnl_r, rInt1_b, rInt1_i, rRep_r, tStep_r, scal, tSeq, tNext, tAsg, tRet, tRetN, tIfS, tDrop, tCB, tCons, tNil, tVar, tOp, tUn, tC, rU_i, rI_ii, rI0_ii, rEq, rNe, tTest, tB, tAnd, tOr, tNot, tAndV, tOrV, tNotV, tIf, tChain, tLst, tTup, tBM, tBM0, rAppend_r, rIxL_r, rIxT_r, rMx_ii, rMn_ii, rLnL_r, rLnT_r, rIsD_int, rIsD_bool, rIsD_list, rIsD_tuple, tCall, gName, gNil_n, gCons_c, cxK, L2.start, List.map, List.replicate, List.length_cons, List.length_nil, List.cons_append, List.nil_append, List.append_nil, List.getElem?_cons_zero, List.getElem?_cons_succ, Option.some.injEq, exists_eq_left', exists_eq_left, V.int.injEq, V.bl.injEq, V.str.injEq, V.ref.injEq, List.cons.injEq, and_true, true_and, and_self, List.set, wipe, rAll_r, rSum_r, reduceCtorEq, decide_true, decide_false, reduceIte, ite_true, ite_false, if_true, if_false, Bool.false_eq_true, Bool.not_true, Bool.not_false])
local macro_rules | `(tactic| walk_at "shaped") => `(tactic| (simp only [SeqAt.shaped, PyData.canLay0, PyData.canLayAll0, PyData.depth, PyData.depthAll]; rfl))
local macro_rules | `(tactic| walk_at "lay") => `(tactic| (simp only [PyData.canLay0, PyData.canLayAll0]; rfl))
def top (i : Nat) : Stmt := PySem.Challenge.pw_bakeahead_k37_a_ledger_refuses.main.body.getD i (.Pass ⟨0, 0, 0, 0⟩)
structure Bi (mg : Str → Option Value) : Prop where
  len : mg "len" = none
  max : mg "max" = none
  min : mg "min" = none
  range : mg "range" = none
  isinstance : mg "isinstance" = none
  int : mg "int" = none
  bool : mg "bool" = none
  list : mg "list" = none
  tuple : mg "tuple" = none
  all : mg "all" = none
  sum : mg "sum" = none
  repr : mg "repr" = none
  enumerate : mg "enumerate" = none
section
variable {P : Program} {w : World} {K : PySem.W.Frag} {mg : Str → Option Value} {base : Heap}
abbrev s_is_whole : Stmt := top 20
theorem sc_is_whole : FnScope ["thing"] ["thing"] (defScope s_is_whole) := ⟨rfl, rfl, rfl, by decide +kernel, rfl, by decide +kernel, by decide +kernel⟩
def spWhole (K : PySem.W.Frag) : Sp := fun vs H Q _ => ∃ x d, vs = [x] ∧ Th K H x d ∧ Q (.bl (wholeD d)) H
theorem ok_is_whole {f : Addr} {fd : FuncData} {k : Nat} (F : Fun K "is_whole" "is_whole" s_is_whole f fd) (B : Bi mg) : FnOk P w K mg base CX0 (k + 1) f fd ["thing"] (spWhole K) := by
  refine F.ok sc_is_whole (fun vs H Q E h => ?_) (fun cdv A outer s H vs Q E hr h => ?_)
  · obtain ⟨x, d, rfl, _⟩ := h
    rfl
  · obtain ⟨x, d, rfl, hx, q⟩ := h
    refine ⟨_, (pss_one (ps_ret (pe_and (pe_callB (call_isD .int) (by rfl) B.isinstance (by decide +kernel) (pa_cons (pv 0) (pa_cons (pe_bltn (v := .ty "int") (by rfl) B.int (by decide +kernel) rfl) pa_nil))) (pe_one (pe_not (pe_callB (call_isD .bool) (by rfl) B.isinstance (by decide +kernel) (pa_cons (pv 0) (pa_cons (pe_bltn (v := .ty "bool") (by rfl) B.bool (by decide +kernel) rfl) pa_nil)))))))), ?_⟩
    walk_at "wp"
    refine ⟨d, hx, ite2 (fun h => ⟨d, hx, ?_⟩) (fun h => ?_)⟩
    · rw [← wholeD_is, h] at q
      exact q
    · rw [← wholeD_is, Bool.eq_false_iff.mpr h] at q
      exact q
abbrev s_is_number : Stmt := top 21
theorem sc_is_number : FnScope ["thing"] ["thing"] (defScope s_is_number) := ⟨rfl, rfl, rfl, by decide +kernel, rfl, by decide +kernel, by decide +kernel⟩
def spNum (K : PySem.W.Frag) : Sp := fun vs H Q _ => ∃ x d, vs = [x] ∧ Th K H x d ∧ Q (.bl (numD d)) H
theorem ok_is_number {f : Addr} {fd : FuncData} {k : Nat} (F : Fun K "is_number" "is_number" s_is_number f fd) (B : Bi mg) {t : Tok} (M_GREATEST : mg "GREATEST" = some (.int 1000000000 t)) (D_is_whole : Def P w K mg base "is_whole" (k + 1) ["thing"] (spWhole K)) :
    FnOk P w K mg base CX0 (k + 2) f fd ["thing"] (spNum K) := by
  refine F.ok sc_is_number (fun vs H Q E h => ?_) (fun cdv A outer s H vs Q E hr h => ?_)
  · obtain ⟨x, d, rfl, _⟩ := h
    rfl
  · obtain ⟨x, d, rfl, hx, q⟩ := h
    refine ⟨_, (pss_one (ps_ret (pe_and (pe_callD D_is_whole hr (by rfl) (pa_cons (pv 0) pa_nil)) (pe_one (pe_chain op_le op_le pe_int (pv 0) (pe_globI rfl M_GREATEST)))))), ?_⟩
    walk_at "wp"
    refine ⟨x, d, rfl, hx, ?_⟩
    walk_at "wp"
    cases hx with
    | int i =>
      simp only [wholeD]
      walk_at "wp"
      refine ite2 (fun h => ?_) (fun h => ?_)
      · show Q (.bl (decide (i ≤ 1000000000))) H
        simp only [numD, h, Bool.true_and] at q
        exact q
      · simp only [numD, Bool.eq_false_iff.mpr h, Bool.false_and] at q
        exact q
    | _ => exact q

abbrev s_is_tuple_of : Stmt := top 26
theorem sc_is_tuple_of : FnScope ["thing", "many"] ["thing", "many"] (defScope s_is_tuple_of) := ⟨rfl, rfl, rfl, by decide +kernel, rfl, by decide +kernel, by decide +kernel⟩
def spTupleOf (K : PySem.W.Frag) : Sp := fun vs H Q _ => ∃ x d, ∃ n : Nat, vs = [x, .int (n : Int)] ∧ Th K H x d ∧ Q (.bl (tupB n d)) H
theorem ok_is_tuple_of {f : Addr} {fd : FuncData} (F : Fun K "is_tuple_of" "is_tuple_of" s_is_tuple_of f fd) (B : Bi mg) : FnOk P w K mg base CX0 1 f fd ["thing", "many"] (spTupleOf K) := by
  refine F.ok sc_is_tuple_of (fun vs H Q E h => ?_) (fun cdv A outer s H vs Q E hr h => ?_)
  · obtain ⟨x, d, n, rfl, _⟩ := h
    rfl
  · obtain ⟨x, d, n, rfl, hx, q⟩ := h
    refine ⟨_, (pss_one (ps_ret (pe_and (pe_callB (call_isD .tuple) (by rfl) B.isinstance (by decide +kernel) (pa_cons (pv 0) (pa_cons (pe_bltn (v := .ty "tuple") (by rfl) B.tuple (by decide +kernel) rfl) pa_nil))) (pe_one (pe_cmpR op_eq (pe_callB call_lnT (by rfl) B.len (by decide +kernel) (pa_cons (pv 0) pa_nil)) (pv 1) (nomark _)))))), ?_⟩
    walk_at "wp"
    refine ⟨d, hx, ?_⟩
    cases hx with
    | tup ht ha =>
      simp only [isD]
      walk_at "wp"
      refine ⟨_, ht, qb ?_ q⟩
      rw [ha.length]
      exact decide_eq_decide.mpr (by omega)
    | _ => exact q
abbrev s_is_list_of : Stmt := top 27
theorem sc_is_list_of : FnScope ["thing", "fewest", "most"] ["thing", "fewest", "most"] (defScope s_is_list_of) := ⟨rfl, rfl, rfl, by decide +kernel, rfl, by decide +kernel, by decide +kernel⟩
def spListOf (K : PySem.W.Frag) : Sp := fun vs H Q _ => ∃ x d, ∃ n m : Nat, vs = [x, .int (n : Int), .int (m : Int)] ∧ Th K H x d ∧ Q (.bl (listB n m d)) H
theorem ok_is_list_of {f : Addr} {fd : FuncData} (F : Fun K "is_list_of" "is_list_of" s_is_list_of f fd) (B : Bi mg) : FnOk P w K mg base CX0 1 f fd ["thing", "fewest", "most"] (spListOf K) := by
  refine F.ok sc_is_list_of (fun vs H Q E h => ?_) (fun cdv A outer s H vs Q E hr h => ?_)
  · obtain ⟨x, d, n, m, rfl, _⟩ := h
    rfl
  · obtain ⟨x, d, n, m, rfl, hx, q⟩ := h
    refine ⟨_, (pss_one (ps_ret (pe_and (pe_callB (call_isD .list) (by rfl) B.isinstance (by decide +kernel) (pa_cons (pv 0) (pa_cons (pe_bltn (v := .ty "list") (by rfl) B.list (by decide +kernel) rfl) pa_nil))) (pe_one (pe_chain op_le op_le (pv 1) (pe_callB call_lnL (by rfl) B.len (by decide +kernel) (pa_cons (pv 0) pa_nil)) (pv 2)))))), ?_⟩
    walk_at "wp"
    refine ⟨d, hx, ?_⟩
    cases hx with
    | lst ht ha =>
      simp only [isD]
      walk_at "wp"
      refine ⟨_, ht, ?_⟩
      have e1 : ∀ a b : Nat, decide ((a : Int) ≤ (b : Int)) = decide (a ≤ b) := fun a b => decide_eq_decide.mpr (by omega)
      rw [ha.length, e1, e1]
      refine ite2 (fun h => qb ?_ q) (fun h => qb ?_ q)
      · simp only [listB, h, Bool.true_and]
      · simp only [listB, Bool.eq_false_iff.mpr h, Bool.false_and]
    | _ => exact q
abbrev s_are_lights : Stmt := top 28
theorem sc_are_lights : FnScope ["thing", "light"] ["thing"] (defScope s_are_lights) := ⟨rfl, rfl, rfl, by decide +kernel, rfl, by decide +kernel, by decide +kernel⟩
def spPred (K : PySem.W.Frag) (p : PyData → Bool) : Sp := fun vs H Q _ => ∃ x d, vs = [x] ∧ Th K H x d ∧ ∀ H', Same H H' → Q (.bl (p d)) H'
theorem ok_are_lights {f : Addr} {fd : FuncData} (F : Fun K "are_lights" "are_lights" s_are_lights f fd) (B : Bi mg) {t : Tok} (M_MOST_DAYS : mg "MOST_DAYS" = some (.int 40 t)) (D_is_list_of : Def P w K mg base "is_list_of" 1 ["thing", "fewest", "most"] (spListOf K)) (D_is_number : Def P w K mg base "is_number" 2 ["thing"] (spNum K)) :
    FnOk P w K mg base CX0 3 f fd ["thing"] (spPred K lightsB) := by
  refine F.ok sc_are_lights (fun vs H Q E h => ?_) (fun cdv A outer s H vs Q E hr h => ?_)
  · obtain ⟨x, d, rfl, _⟩ := h
    rfl
  · obtain ⟨x, d, rfl, hx, q⟩ := h
    refine ⟨_, (pss_one (ps_ret (pe_and (pe_callD D_is_list_of hr (by rfl) (pa_cons (pv 0) (pa_cons pe_int (pa_cons (pe_globI rfl M_MOST_DAYS) pa_nil)))) (pe_one (pe_callB (cr_all rfl) (by rfl) B.all (by decide +kernel) (pa_cons (pe_lc (own := [("light", 1)]) (g := (gName 1)) rfl sc_are_lights.nd (pi_list (pv 0)) (blkOk_by (own := [("light", 1)]) (N := ["thing", "light"]) (sc := defScope s_are_lights) (by decide +kernel)) (fun _ _ _ _ _ => (pg_name (i := 1) sc_are_lights.nd rfl (Or.inl rfl))) (fun _ _ _ _ _ => pts_nil) (fun _ _ _ _ _ => (pe_callD D_is_number hr (by rfl) (pa_cons (pv 1) pa_nil)))) pa_nil)))))), ?_⟩
    walk_at "wp"
    refine ⟨x, d, 1, 40, rfl, hx, ?_⟩
    walk_at "wp"
    cases hx with
    | lst hs ha =>
      refine ite2 (fun h => ?_) (fun h => ?_)
      · have hl := ha.length
        have h40 : _ ≤ 40 := of_decide_eq_true (Bool.and_eq_true_iff.mp h).2
        walk_at "wp"
        refine ⟨⟨_, hs⟩, fun D hD => ?_⟩
        rename_i ds
        refine LcR.map (walk_list (xs := _)) ((ds.map numD).map V.bl) hD (by rw [List.length_map, List.length_map, hl]) (by omega) (fun H s => s.seq hs) (fun _ _ _ _ y => yat_same y) (fun i x y H0 H1 hi s1 yy hy R hR => ?_) (fun H1 s1 hH => ?_)
        · obtain ⟨rfl, hx⟩ := yy
          obtain ⟨d, hd, hxd⟩ := ha.get hx
          walk_at "wp"
          refine ⟨x, d, rfl, hxd.same s1, ?_⟩
          rw [List.getElem?_map, List.getElem?_map, hd] at hy
          cases hy
          exact hR _ (Same.refl _)
        · refine ⟨ds.map numD, SqL.of hH, qb ?_ (q _ s1)⟩
          simp only [lightsB, h, Bool.true_and, List.all_map]
          rfl
      · exact qb (by simp only [lightsB, Bool.eq_false_iff.mpr h, Bool.false_and]) (q H (Same.refl _))
    | _ => exact q H (Same.refl _)
abbrev s_is_bound : Stmt := top 29
theorem sc_is_bound : FnScope ["thing"] ["thing"] (defScope s_is_bound) := ⟨rfl, rfl, rfl, by decide +kernel, rfl, by decide +kernel, by decide +kernel⟩
theorem ok_is_bound {f : Addr} {fd : FuncData} (F : Fun K "is_bound" "is_bound" s_is_bound f fd) (D_is_number : Def P w K mg base "is_number" 2 ["thing"] (spNum K)) :
    FnOk P w K mg base CX0 3 f fd ["thing"] (spPred K boundB) := by
  refine F.ok sc_is_bound (fun vs H Q E h => ?_) (fun cdv A outer s H vs Q E hr h => ?_)
  · obtain ⟨x, d, rfl, _⟩ := h
    rfl
  · obtain ⟨x, d, rfl, hx, q⟩ := h
    refine ⟨_, (pss_one (ps_ret (pe_or (pe_cmpR op_isN (pv 0) pe_non (nomark _)) (pe_one (pe_and (pe_callD D_is_number hr (by rfl) (pa_cons (pv 0) pa_nil)) (pe_one (pe_cmpR op_ge (pv 0) pe_int (nomark _)))))))), ?_⟩
    have hy := hx
    have q0 := q H (Same.refl _)
    cases hx with
    | non =>
      walk_at "wp"
      exact q0
    | int i =>
      walk_at "wp"
      refine ⟨_, _, rfl, hy, ?_⟩
      walk_at "wp"
      refine ite2 (fun h => qb ?_ q0) (fun h => qb ?_ q0)
      · simp only [boundB, h, Bool.true_and]
      · simp only [boundB, Bool.eq_false_iff.mpr h, Bool.false_and]
    | _ =>
      walk_at "wp"
      refine ⟨_, _, rfl, hy, ?_⟩
      exact ⟨_, rfl, iteF q0⟩
abbrev s_is_life : Stmt := top 30
theorem sc_is_life : FnScope ["thing"] ["thing"] (defScope s_is_life) := ⟨rfl, rfl, rfl, by decide +kernel, rfl, by decide +kernel, by decide +kernel⟩
theorem ok_is_life {f : Addr} {fd : FuncData} (F : Fun K "is_life" "is_life" s_is_life f fd) {t : Tok} (M_LONGEST_LIFE : mg "LONGEST_LIFE" = some (.int 40 t)) (D_is_whole : Def P w K mg base "is_whole" 1 ["thing"] (spWhole K)) :
    FnOk P w K mg base CX0 3 f fd ["thing"] (spPred K lifeB) := by
  refine F.ok sc_is_life (fun vs H Q E h => ?_) (fun cdv A outer s H vs Q E hr h => ?_)
  · obtain ⟨x, d, rfl, _⟩ := h
    rfl
  · obtain ⟨x, d, rfl, hx, q⟩ := h
    refine ⟨_, (pss_one (ps_ret (pe_or (pe_cmpR op_isN (pv 0) pe_non (nomark _)) (pe_one (pe_and (pe_callD D_is_whole hr (by rfl) (pa_cons (pv 0) pa_nil)) (pe_one (pe_chain op_le op_le pe_int (pv 0) (pe_globI rfl M_LONGEST_LIFE)))))))), ?_⟩
    have hy := hx
    have q0 := q H (Same.refl _)
    cases hx with
    | non =>
      walk_at "wp"
      exact q0
    | int i =>
      walk_at "wp"
      refine ⟨_, _, rfl, hy, ?_⟩
      simp only [wholeD]
      walk_at "wp"
      refine ite2 (fun h => qb ?_ q0) (fun h => qb ?_ q0)
      · simp only [lifeB, h, Bool.true_and]
      · simp only [lifeB, Bool.eq_false_iff.mpr h, Bool.false_and]
    | _ =>
      walk_at "wp"
      refine ⟨_, _, rfl, hy, ?_⟩
      exact ⟨_, rfl, iteF q0⟩
abbrev s_is_day : Stmt := top 31
theorem sc_is_day : FnScope ["thing", "want", "loaf", "keep", "fine", "part"] ["thing"] (defScope s_is_day) := ⟨rfl, rfl, rfl, by decide +kernel, rfl, by decide +kernel, by decide +kernel⟩
theorem ok_is_day {f : Addr} {fd : FuncData} (F : Fun K "is_day" "is_day" s_is_day f fd) (B : Bi mg) (D_is_tuple_of : Def P w K mg base "is_tuple_of" 1 ["thing", "many"] (spTupleOf K)) (D_is_number : Def P w K mg base "is_number" 2 ["thing"] (spNum K)) :
    FnOk P w K mg base CX0 3 f fd ["thing"] (spPred K dayB) := by
  refine F.ok sc_is_day (fun vs H Q E h => ?_) (fun cdv A outer s H vs Q E hr h => ?_)
  · obtain ⟨x, d, rfl, _⟩ := h
    rfl
  · obtain ⟨x, d, rfl, hx, q⟩ := h
    refine ⟨_, (pss_cons (ps_if (pt_not (pt_val (pe_callD D_is_tuple_of hr (by rfl) (pa_cons (pv 0) (pa_cons pe_int pa_nil))))) (pss_one (ps_ret pe_bl)) pss_nil)
 (pss_cons (ps_asg (pv 0) (pg_tup rfl (pgs_cons (pg_name (i := 1) sc_is_day.nd rfl (Or.inl rfl)) (pgs_cons (pg_name (i := 2) sc_is_day.nd rfl (Or.inl rfl)) (pgs_cons (pg_name (i := 3) sc_is_day.nd rfl (Or.inl rfl)) (pgs_cons (pg_name (i := 4) sc_is_day.nd rfl (Or.inl rfl)) pgs_nil))))))
 (pss_one (ps_ret (pe_and (pe_callB (cr_all rfl) (by rfl) B.all (by decide +kernel) (pa_cons (pe_lc (own := [("part", 5)]) (g := (gName 5)) rfl sc_is_day.nd (pi_tup (pe_tup (pa_cons (pv 1) (pa_cons (pv 2) (pa_cons (pv 3) pa_nil))))) (blkOk_by (own := [("part", 5)]) (N := ["thing", "want", "loaf", "keep", "fine", "part"]) (sc := defScope s_is_day) (by decide +kernel)) (fun _ _ _ _ _ => (pg_name (i := 5) sc_is_day.nd rfl (Or.inl rfl))) (fun _ _ _ _ _ => pts_nil) (fun _ _ _ _ _ => (pe_callD D_is_number hr (by rfl) (pa_cons (pv 5) pa_nil)))) pa_nil)) (pe_one (pe_or (pe_cmpR op_isN (pv 4) pe_non (nomark _)) (pe_one (pe_callD D_is_number hr (by rfl) (pa_cons (pv 4) pa_nil)))))))))), ?_⟩
    walk_at "wp"
    refine ⟨x, d, 4, rfl, hx, ?_⟩
    walk_at "wp"
    cases hx with
    | tup hs ha =>
      rename_i a xs ds
      refine ite2 (fun h => ?_) (fun h => ?_)
      · refine qb ?_ (q H (Same.refl _))
        have h4 : ¬ ds.length = 4 := of_decide_eq_false (Bool.eq_false_iff.mpr fun z => by rw [show tupB 4 (.tuple ds) = true from z] at h; cases h)
        symm
        match ds, h4 with
        | [], _ => rfl
        | [_], _ => rfl
        | [_, _], _ => rfl
        | [_, _, _], _ => rfl
        | [_, _, _, _], h4 => exact absurd rfl h4
        | _ :: _ :: _ :: _ :: _ :: _, _ => rfl
      · have h4 : ds.length = 4 := of_decide_eq_true (show tupB 4 (.tuple ds) = true by cases e : tupB 4 (.tuple ds) with | true => rfl | false => rw [e] at h; exact absurd rfl h)
        obtain ⟨d1, d2, d3, d4, rfl⟩ := four h4
        cases ha with
        | cons t1 ha => cases ha with
        | cons t2 ha => cases ha with
        | cons t3 ha => cases ha with
        | cons t4 ha =>
        cases ha
        rename_i v1 v2 v3 v4
        walk_at "wp"
        refine ⟨_, hs, rfl, ?_⟩
        walk_at "wp"
        refine ⟨sz100 (by decide), fun p hp => ⟨⟨_, SqT.of upd_same⟩, fun D hD => ?_⟩⟩
        have sp : Same H (upd H p (.tup [v1, v2, v3])) := same_upd hp
        have hT : SqT K (upd H p (.tup [v1, v2, v3])) p [v1, v2, v3] := SqT.of upd_same
        generalize upd H p (.tup [v1, v2, v3]) = Hb at sp hT hD ⊢
        have ta : ThAll K Hb [v1, v2, v3] [d1, d2, d3] := .cons (t1.same sp) (.cons (t2.same sp) (.cons (t3.same sp) .nil))
        refine LcR.map (walk_tup (xs := [v1, v2, v3])) (([d1, d2, d3].map numD).map V.bl) hD rfl (by show 3 ≤ 100000; decide) (fun H s => Same.tup s hT) (fun _ _ _ _ y => yat_same y) (fun i x y H0 H1 hi s1 yy hy R hR => ?_) (fun H1 s1 hH => ?_)
        · obtain ⟨rfl, hx⟩ := yy
          obtain ⟨d, hd, hxd⟩ := ta.get hx
          walk_at "wp"
          refine ⟨x, d, rfl, hxd.same s1, ?_⟩
          rw [List.getElem?_map, List.getElem?_map, hd] at hy
          cases hy
          exact hR _ (Same.refl _)
        · have q1 := q _ (sp.trans s1)
          refine ⟨[d1, d2, d3].map numD, SqL.of hH, ?_⟩
          have e3 : ([d1, d2, d3].map numD).all id = (numD d1 && numD d2 && numD d3) := by
            simp only [List.map, List.all_cons, List.all_nil, id, Bool.and_true, Bool.and_assoc]
          rw [e3]
          refine ite2 (fun h => ?_) (fun h => qb ?_ q1)
          · have t4' := t4.same (sp.trans s1)
            rw [t4'.isNon]
            refine ite2 (fun hn => qb ?_ q1) (fun hn => ⟨_, _, rfl, t4', qb ?_ q1⟩)
            · simp only [dayB, h, hn, Bool.true_or, Bool.true_and]
            · simp only [dayB, h, Bool.eq_false_iff.mpr hn, Bool.false_or, Bool.true_and]
          · simp only [dayB, Bool.eq_false_iff.mpr h, Bool.false_and]
    | _ => exact q H (Same.refl _)
abbrev s_has_bakery_form : Stmt := top 32
theorem sc_has_bakery_form : FnScope ["thing", "lights", "bound", "goods"] ["thing"] (defScope s_has_bakery_form) := ⟨rfl, rfl, rfl, by decide +kernel, rfl, by decide +kernel, by decide +kernel⟩
theorem ok_has_bakery_form {f : Addr} {fd : FuncData} (F : Fun K "has_bakery_form" "has_bakery_form" s_has_bakery_form f fd) (D_is_tuple_of : Def P w K mg base "is_tuple_of" 1 ["thing", "many"] (spTupleOf K)) (D_are_lights : Def P w K mg base "are_lights" 3 ["thing"] (spPred K lightsB))
    (D_is_bound : Def P w K mg base "is_bound" 3 ["thing"] (spPred K boundB)) (D_is_list_of : Def P w K mg base "is_list_of" 1 ["thing", "fewest", "most"] (spListOf K)) {t : Tok} (M_MOST_GOODS : mg "MOST_GOODS" = some (.int 2 t)) :
    FnOk P w K mg base CX0 4 f fd ["thing"] (spPred K bakFormB) := by
  refine F.ok sc_has_bakery_form (fun vs H Q E h => ?_) (fun cdv A outer s H vs Q E hr h => ?_)
  · obtain ⟨x, d, rfl, _⟩ := h
    rfl
  · obtain ⟨x, d, rfl, hx, q⟩ := h
    refine ⟨_, (pss_cons (ps_if (pt_not (pt_val (pe_callD D_is_tuple_of hr (by rfl) (pa_cons (pv 0) (pa_cons pe_int pa_nil))))) (pss_one (ps_ret pe_bl)) pss_nil)
 (pss_cons (ps_asg (pv 0) (pg_tup rfl (pgs_cons (pg_name (i := 1) sc_has_bakery_form.nd rfl (Or.inl rfl)) (pgs_cons (pg_name (i := 2) sc_has_bakery_form.nd rfl (Or.inl rfl)) (pgs_cons (pg_name (i := 3) sc_has_bakery_form.nd rfl (Or.inl rfl)) pgs_nil)))))
 (pss_one (ps_ret (pe_and (pe_callD D_are_lights hr (by rfl) (pa_cons (pv 1) pa_nil)) (pe_and (pe_callD D_is_bound hr (by rfl) (pa_cons (pv 2) pa_nil)) (pe_one (pe_callD D_is_list_of hr (by rfl) (pa_cons (pv 3) (pa_cons pe_int (pa_cons (pe_globI rfl M_MOST_GOODS) pa_nil))))))))))), ?_⟩
    walk_at "wp"
    refine ⟨x, d, 3, rfl, hx, ?_⟩
    walk_at "wp"
    cases hx with
    | tup hs ha =>
      rename_i a xs ds
      refine ite2 (fun h => ?_) (fun h => ?_)
      · refine qb ?_ (q H (Same.refl _))
        have h4 : ¬ ds.length = 3 := of_decide_eq_false (Bool.eq_false_iff.mpr fun z => by rw [show tupB 3 (.tuple ds) = true from z] at h; cases h)
        symm
        match ds, h4 with
        | [], _ => rfl
        | [_], _ => rfl
        | [_, _], _ => rfl
        | [_, _, _], h4 => exact absurd rfl h4
        | _ :: _ :: _ :: _ :: _, _ => rfl
      · have h4 : ds.length = 3 := of_decide_eq_true (show tupB 3 (.tuple ds) = true by cases e : tupB 3 (.tuple ds) with | true => rfl | false => rw [e] at h; exact absurd rfl h)
        obtain ⟨d1, d2, d3, rfl⟩ := three h4
        cases ha with
        | cons t1 ha => cases ha with
        | cons t2 ha => cases ha with
        | cons t3 ha =>
        cases ha
        rename_i v1 v2 v3
        walk_at "wp"
        refine ⟨_, hs, rfl, ?_⟩
        walk_at "wp"
        refine ⟨_, _, rfl, t1, fun H1 s1 => ?_⟩
        walk_at "wp"
        refine ite2 (fun h1 => ⟨_, _, rfl, t2.same s1, fun H2 s2 => ?_⟩) (fun h1 => qb ?_ (q H1 s1))
        · walk_at "wp"
          refine ite2 (fun h2 => ⟨_, _, 1, 2, rfl, t3.same (s1.trans s2), qb ?_ (q H2 (s1.trans s2))⟩) (fun h2 => qb ?_ (q H2 (s1.trans s2)))
          · simp only [bakFormB, h1, h2, Bool.true_and]
          · simp only [bakFormB, h1, Bool.eq_false_iff.mpr h2, Bool.true_and, Bool.false_and]
        · simp only [bakFormB, Bool.eq_false_iff.mpr h1, Bool.false_and]
    | _ => exact q H (Same.refl _)
abbrev s_has_good_form : Stmt := top 33
theorem sc_has_good_form : FnScope ["thing", "many", "days", "life"] ["thing", "many"] (defScope s_has_good_form) := ⟨rfl, rfl, rfl, by decide +kernel, rfl, by decide +kernel, by decide +kernel⟩
def spGoodForm (K : PySem.W.Frag) : Sp := fun vs H Q _ => ∃ x d, ∃ n : Nat, vs = [x, .int (n : Int)] ∧ Th K H x d ∧ ∀ H', Same H H' → Q (.bl (goodFormB n d)) H'
theorem ok_has_good_form {f : Addr} {fd : FuncData} (F : Fun K "has_good_form" "has_good_form" s_has_good_form f fd) (D_is_tuple_of : Def P w K mg base "is_tuple_of" 1 ["thing", "many"] (spTupleOf K)) (D_is_life : Def P w K mg base "is_life" 3 ["thing"] (spPred K lifeB))
    (D_is_list_of : Def P w K mg base "is_list_of" 1 ["thing", "fewest", "most"] (spListOf K)) :
    FnOk P w K mg base CX0 4 f fd ["thing", "many"] (spGoodForm K) := by
  refine F.ok sc_has_good_form (fun vs H Q E h => ?_) (fun cdv A outer s H vs Q E hr h => ?_)
  · obtain ⟨x, d, n, rfl, _⟩ := h
    rfl
  · obtain ⟨x, d, n, rfl, hx, q⟩ := h
    refine ⟨_, (pss_cons (ps_if (pt_not (pt_val (pe_callD D_is_tuple_of hr (by rfl) (pa_cons (pv 0) (pa_cons pe_int pa_nil))))) (pss_one (ps_ret pe_bl)) pss_nil)
 (pss_cons (ps_asg (pv 0) (pg_tup rfl (pgs_cons (pg_name (i := 2) sc_has_good_form.nd rfl (Or.inl rfl)) (pgs_cons (pg_name (i := 3) sc_has_good_form.nd rfl (Or.inl rfl)) pgs_nil))))
 (pss_one (ps_ret (pe_and (pe_callD D_is_list_of hr (by rfl) (pa_cons (pv 2) (pa_cons (pv 1) (pa_cons (pv 1) pa_nil)))) (pe_one (pe_callD D_is_life hr (by rfl) (pa_cons (pv 3) pa_nil)))))))), ?_⟩
    walk_at "wp"
    refine ⟨x, d, 2, rfl, hx, ?_⟩
    walk_at "wp"
    cases hx with
    | tup hs ha =>
      rename_i a xs ds
      refine ite2 (fun h => ?_) (fun h => ?_)
      · refine qb ?_ (q H (Same.refl _))
        have h4 : ¬ ds.length = 2 := of_decide_eq_false (Bool.eq_false_iff.mpr fun z => by rw [show tupB 2 (.tuple ds) = true from z] at h; cases h)
        symm
        match ds, h4 with
        | [], _ => rfl
        | [_], _ => rfl
        | [_, _], h4 => exact absurd rfl h4
        | _ :: _ :: _ :: _, _ => rfl
      · have h4 : ds.length = 2 := of_decide_eq_true (show tupB 2 (.tuple ds) = true by cases e : tupB 2 (.tuple ds) with | true => rfl | false => rw [e] at h; exact absurd rfl h)
        obtain ⟨d1, d2, rfl⟩ := two h4
        cases ha with
        | cons t1 ha => cases ha with
        | cons t2 ha =>
        cases ha
        rename_i v1 v2
        walk_at "wp"
        refine ⟨_, hs, rfl, ?_⟩
        walk_at "wp"
        refine ⟨_, _, n, n, rfl, t1, ?_⟩
        walk_at "wp"
        refine ite2 (fun h1 => ⟨_, _, rfl, t2, fun H2 s2 => qb ?_ (q H2 s2)⟩) (fun h1 => qb ?_ (q H (Same.refl _)))
        · simp only [goodFormB, h1, Bool.true_and]
        · simp only [goodFormB, Bool.eq_false_iff.mpr h1, Bool.false_and]
    | _ => exact q H (Same.refl _)
abbrev s_look_at_goods : Stmt := top 34
theorem sc_look_at_goods : FnScope ["goods", "many", "number", "good", "days", "life", "at", "day"] ["goods", "many"] (defScope s_look_at_goods) := ⟨rfl, rfl, rfl, by decide +kernel, rfl, by decide +kernel, by decide +kernel⟩
def spLookGoods (K : PySem.W.Frag) : Sp := fun vs H Q _ => ∃ x, ∃ n : Nat, ∃ gs, vs = [x, .int (n : Int)] ∧ Th K H x (.list gs) ∧ gs.all (goodB n) = true ∧ ∀ H', Same H H' → Q .non H'
def LgI (x : V) (n : Nat) (H : Hp) (_ : Nat) (σ : L2.St) (H' : Hp) : Prop := (∃ y2 y3 y4 y5 y6 y7, σ = [some x, some (.int (n : Int)), y2, y3, y4, y5, y6, y7]) ∧ Same H H'
def LgJ (x : V) (n : Nat) (v2 v3 v4 v5 : V) (H : Hp) (_ : Nat) (σ : L2.St) (H' : Hp) : Prop := (∃ y6 y7, σ = [some x, some (.int (n : Int)), some v2, some v3, some v4, some v5, y6, y7]) ∧ Same H H'
theorem ok_look_at_goods {f : Addr} {fd : FuncData} (F : Fun K "look_at_goods" "look_at_goods" s_look_at_goods f fd) (B : Bi mg) (D_has_good_form : Def P w K mg base "has_good_form" 4 ["thing", "many"] (spGoodForm K)) (D_is_day : Def P w K mg base "is_day" 3 ["thing"] (spPred K dayB)) :
    FnOk P w K mg base CX0 5 f fd ["goods", "many"] (spLookGoods K) := by
  refine F.ok sc_look_at_goods (fun vs H Q E h => ?_) (fun cdv A outer s H vs Q E hr h => ?_)
  · obtain ⟨x, n, gs, rfl, _⟩ := h
    rfl
  · obtain ⟨x, n, gs, rfl, hx, hg, q⟩ := h
    refine ⟨_, (pss_one (ps_for PassesOwn.never rfl (pi_enum (by rfl) B.enumerate (pa_cons (pv 0) pa_nil)) (pg_tup rfl (pgs_cons (pg_name (i := 2) sc_look_at_goods.nd rfl (Or.inl rfl)) (pgs_cons (pg_name (i := 3) sc_look_at_goods.nd rfl (Or.inl rfl)) pgs_nil))) (pss_cons (ps_if (pt_not (pt_val (pe_callD D_has_good_form hr (by rfl) (pa_cons (pv 3) (pa_cons (pv 1) pa_nil))))) (pss_one ps_never) pss_nil)
 (pss_cons (ps_asg (pv 3) (pg_tup rfl (pgs_cons (pg_name (i := 4) sc_look_at_goods.nd rfl (Or.inl rfl)) (pgs_cons (pg_name (i := 5) sc_look_at_goods.nd rfl (Or.inl rfl)) pgs_nil))))
 (pss_one (ps_for PassesOwn.never rfl (pi_enum (by rfl) B.enumerate (pa_cons (pv 4) pa_nil)) (pg_tup rfl (pgs_cons (pg_name (i := 6) sc_look_at_goods.nd rfl (Or.inl rfl)) (pgs_cons (pg_name (i := 7) sc_look_at_goods.nd rfl (Or.inl rfl)) pgs_nil))) (pss_one (ps_if (pt_not (pt_val (pe_callD D_is_day hr (by rfl) (pa_cons (pv 7) pa_nil)))) (pss_one ps_never) pss_nil)))))))), ?_⟩
    cases hx with
    | lst hs ha =>
    rename_i a xs
    walk_at "wp"
    refine ⟨_, hs, LoopR.by walk_enum (LgI (.ref a) n H) ⟨⟨_, _, _, _, _, _, rfl⟩, Same.refl _⟩ (fun i σ H' _ hI => hI.2.seq hs) (fun i v σ H0 H1 hi hI hY => ?_) (fun σ H' hI => q _ hI.2)⟩
    obtain ⟨⟨y2, y3, y4, y5, y6, y7, rfl⟩, S0⟩ := hI
    have S1 := S0.trans (ypair_same hY)
    obtain ⟨T, z1, z2, rfl, hT, rfl, e1, e2⟩ := hY
    cases e1
    have e2 : xs[i]? = some z2 := e2
    obtain ⟨d, hd, hz⟩ := ha.get e2
    have hdg : goodB n d = true := List.all_eq_true.mp hg d (List.mem_of_getElem? hd)
    obtain ⟨ds, l, rfl, hdl, hlf, hda⟩ := goodB_inv hdg
    walk_at "wp"
    refine ⟨_, SqT.of upd_same, rfl, ?_⟩
    walk_at "wp"
    refine ⟨_, _, n, rfl, hz.same S1, fun H2 S2 => ?_⟩
    rw [show goodFormB n (.tuple [.list ds, l]) = true by simp only [goodFormB, listB, hdl, hlf]; simp]
    walk_at "wp"
    have S3 := S1.trans S2
    have hz3 := hz.same S3
    cases hz3 with
    | tup ht hta =>
    rename_i b ys
    cases hta with
    | cons t1 hta => cases hta with
    | cons t2 hta =>
    cases hta
    rename_i v1 v2
    cases t1 with
    | lst hl1 hl2 =>
    rename_i c zs
    walk_at "wp"
    refine ⟨_, ht, rfl, ?_⟩
    walk_at "wp"
    refine ⟨_, hl1, LoopR.by walk_enum (LgJ (.ref a) n _ _ _ _ H2) ⟨⟨_, _, rfl⟩, Same.refl _⟩ (fun i σ H' _ hI => hI.2.seq hl1) (fun j v σ H4 H5 hj hI hY => ?_) (fun σ H' hI => ?_)⟩
    · obtain ⟨⟨y6, y7, rfl⟩, S4⟩ := hI
      have S5 := S4.trans (ypair_same hY)
      obtain ⟨T2, z3, z4, rfl, hT2, rfl, e3, e4⟩ := hY
      cases e3
      have e4 : zs[j]? = some z4 := e4
      obtain ⟨d2, hd2, hz2⟩ := hl2.get e4
      have hdd : dayB d2 = true := List.all_eq_true.mp hda d2 (List.mem_of_getElem? hd2)
      walk_at "wp"
      refine ⟨_, SqT.of upd_same, rfl, ?_⟩
      walk_at "wp"
      refine ⟨_, _, rfl, hz2.same S5, fun H6 S6 => ?_⟩
      rw [hdd]
      walk_at "wp"
      exact ⟨⟨_, _, rfl⟩, S5.trans S6⟩
    · obtain ⟨⟨y6, y7, rfl⟩, S4⟩ := hI
      exact ⟨⟨_, _, _, _, _, _, rfl⟩, S3.trans S4⟩
abbrev s_look_at_bakery : Stmt := top 35
theorem sc_look_at_bakery : FnScope ["thing", "lights", "bound", "goods"] ["thing"] (defScope s_look_at_bakery) := ⟨rfl, rfl, rfl, by decide +kernel, rfl, by decide +kernel, by decide +kernel⟩
def spLook (K : PySem.W.Frag) : Sp := fun vs H Q _ => ∃ x d, vs = [x] ∧ Th K H x d ∧ bakB d = true ∧ ∀ H', Same H H' → Q .non H'
theorem ok_look_at_bakery {f : Addr} {fd : FuncData} (F : Fun K "look_at_bakery" "look_at_bakery" s_look_at_bakery f fd) (B : Bi mg) (D_has_bakery_form : Def P w K mg base "has_bakery_form" 4 ["thing"] (spPred K bakFormB)) (D_look_at_goods : Def P w K mg base "look_at_goods" 5 ["goods", "many"] (spLookGoods K)) :
    FnOk P w K mg base CX0 6 f fd ["thing"] (spLook K) := by
  refine F.ok sc_look_at_bakery (fun vs H Q E h => ?_) (fun cdv A outer s H vs Q E hr h => ?_)
  · obtain ⟨x, d, rfl, _⟩ := h
    rfl
  · obtain ⟨x, d, rfl, hx, hb, q⟩ := h
    refine ⟨_, (pss_cons (ps_if (pt_not (pt_val (pe_callD D_has_bakery_form hr (by rfl) (pa_cons (pv 0) pa_nil)))) (pss_one ps_never) pss_nil)
 (pss_cons (ps_asg (pv 0) (pg_tup rfl (pgs_cons (pg_name (i := 1) sc_look_at_bakery.nd rfl (Or.inl rfl)) (pgs_cons (pg_name (i := 2) sc_look_at_bakery.nd rfl (Or.inl rfl)) (pgs_cons (pg_name (i := 3) sc_look_at_bakery.nd rfl (Or.inl rfl)) pgs_nil)))))
 (pss_one (ps_expr (pe_callD D_look_at_goods hr (by rfl) (pa_cons (pv 3) (pa_cons (pe_callB call_lnL (by rfl) B.len (by decide +kernel) (pa_cons (pv 1) pa_nil)) pa_nil))))))), ?_⟩
    walk_at "wp"
    refine ⟨_, _, rfl, hx, fun H1 S1 => ?_⟩
    obtain ⟨ls, b, gs, rfl, h1, h2, h3, h4⟩ := bakB_inv hb
    rw [show bakFormB (.tuple [.list ls, b, .list gs]) = true by simp only [bakFormB, h1, h2, h3, Bool.and_self]]
    walk_at "wp"
    have hx1 := hx.same S1
    cases hx1 with
    | tup ht hta =>
    cases hta with
    | cons t1 hta => cases hta with
    | cons t2 hta => cases hta with
    | cons t3 hta =>
    cases hta
    cases t1 with
    | lst hl1 hl2 =>
    walk_at "wp"
    refine ⟨_, ht, rfl, ?_⟩
    walk_at "wp"
    refine ⟨_, hl1, _, ls.length, gs, by rw [hl2.length], t3, h4, fun H2 S2 => q _ (S1.trans S2)⟩
abbrev s_is_place : Stmt := top 38
theorem sc_is_place : FnScope ["thing", "many"] ["thing", "many"] (defScope s_is_place) := ⟨rfl, rfl, rfl, by decide +kernel, rfl, by decide +kernel, by decide +kernel⟩
def spPlace (K : PySem.W.Frag) : Sp := fun vs H Q _ => ∃ i : Int, ∃ n : Nat, vs = [.int i, .int (n : Int)] ∧ Q (.bl (decide (0 ≤ i) && decide (i < (n : Int)))) H
abbrev s_keeps_of : Stmt := top 40
theorem sc_keeps_of : FnScope ["days", "first", "behind", "want", "loaf", "keep", "fine"] ["days", "first", "behind"] (defScope s_keeps_of) := ⟨rfl, rfl, rfl, by decide +kernel, rfl, by decide +kernel, by decide +kernel⟩
def spKeeps (K : PySem.W.Frag) : Sp := fun vs H Q _ => ∃ x ds, ∃ i j : Nat, vs = [x, .int (i : Int), .int (j : Int)] ∧ Th K H x (.list (ds.map dayD)) ∧ ds.length ≤ 1000 ∧ ∀ H', Same H H' → Q (.int (keepsL ds i j)) H'
theorem ok_keeps_of {f : Addr} {fd : FuncData} (F : Fun K "keeps_of" "keeps_of" s_keeps_of f fd) (B : Bi mg) : FnOk P w K mg base CX0 1 f fd ["days", "first", "behind"] (spKeeps K) := by
  refine F.ok sc_keeps_of (fun vs H Q E h => ?_) (fun cdv A outer s H vs Q E hr h => ?_)
  · obtain ⟨x, ds, i, j, rfl, _⟩ := h
    rfl
  · obtain ⟨x, ds, i, j, rfl, hx, hl, q⟩ := h
    refine ⟨_, (pss_one (ps_ret (pe_callB (cr_sum rfl) (by rfl) B.sum (by decide +kernel) (pa_cons (pe_lc (own := [("want", 3), ("loaf", 4), ("keep", 5), ("fine", 6)]) (g := (gTup K 4 (gCons (gName 3) (gCons (gName 4) (gCons (gName 5) (gCons (gName 6) gNil)))))) rfl sc_keeps_of.nd (pi_list (pe_slice sl_list (pv 0) (po_some (pv 1)) (po_some (pv 2)))) (blkOk_by (own := [("want", 3), ("loaf", 4), ("keep", 5), ("fine", 6)]) (N := ["days", "first", "behind", "want", "loaf", "keep", "fine"]) (sc := defScope s_keeps_of) (by decide +kernel)) (fun _ _ _ _ _ => (pg_tup rfl (pgs_cons (pg_name (i := 3) sc_keeps_of.nd rfl (Or.inl rfl)) (pgs_cons (pg_name (i := 4) sc_keeps_of.nd rfl (Or.inl rfl)) (pgs_cons (pg_name (i := 5) sc_keeps_of.nd rfl (Or.inl rfl)) (pgs_cons (pg_name (i := 6) sc_keeps_of.nd rfl (Or.inl rfl)) pgs_nil)))))) (fun _ _ _ _ _ => pts_nil) (fun _ _ _ _ _ => (pv 5))) pa_nil)))), ?_⟩
    cases hx with
    | lst hs ha =>
    rename_i a xs
    walk_at "wp"
    refine ⟨_, hs, fun p hp => ⟨⟨_, SqL.of upd_same⟩, fun D hD => ?_⟩⟩
    rw [cutV_nat] at hD ⊢
    have sp : Same H (upd H p (.lst ((xs.drop i).take (j - i)))) := same_upd hp
    have hL : SqL K (upd H p (.lst ((xs.drop i).take (j - i)))) p ((xs.drop i).take (j - i)) := SqL.of upd_same
    have hb := ((ha.same sp).drop i).take (j - i)
    rw [← List.map_drop, ← List.map_take] at hb
    generalize upd H p (.lst ((xs.drop i).take (j - i))) = Hb at sp hL hD hb ⊢
    generalize hcut : (ds.drop i).take (j - i) = cs at hb
    have hcl : cs.length ≤ 1000 := by
      rw [← hcut, List.length_take, List.length_drop]
      omega
    have hbl := hb.length
    rw [List.length_map] at hbl
    refine LcR.map walk_list (cs.map fun d => V.int d.keep) hD (by rw [List.length_map, hbl]) (by omega) (fun H s => s.seq hL) (fun _ _ _ _ y => yat_same y) (fun i x y H0 H1 hi s1 yy hy R hR => ?_) (fun H1 s1 hH => ?_)
    · obtain ⟨rfl, hx⟩ := yy
      obtain ⟨d, hd, hxd⟩ := hb.get hx
      rw [List.getElem?_map] at hd hy
      cases hc : cs[i]? with
      | none => rw [hc] at hd; cases hd
      | some c =>
        rw [hc] at hd hy
        cases hd
        cases hy
        obtain ⟨t, rfl, ht⟩ := (hxd.same s1).day
        walk_at "wp"
        refine ⟨_, ht, rfl, ?_⟩
        walk_at "wp"
        exact hR _ (Same.refl _)
    · refine ⟨cs.map Day.keep, SqL.of (by rw [List.map_map]; exact hH), ?_⟩
      have q1 := q _ (sp.trans s1)
      unfold keepsL at q1
      rw [hcut] at q1
      exact q1
abbrev s_fines_of : Stmt := top 41
theorem sc_fines_of : FnScope ["days", "first", "behind", "fines", "want", "loaf", "keep", "fine"] ["days", "first", "behind"] (defScope s_fines_of) := ⟨rfl, rfl, rfl, by decide +kernel, rfl, by decide +kernel, by decide +kernel⟩
def spFines (K : PySem.W.Frag) : Sp := fun vs H Q _ => ∃ x ds, ∃ i j : Nat, vs = [x, .int (i : Int), .int (j : Int)] ∧ Th K H x (.list (ds.map dayD)) ∧ ds.length ≤ 1000 ∧ ∀ H', Same H H' → Q (optV (finesL ds i j)) H'
theorem ok_fines_of {f : Addr} {fd : FuncData} (F : Fun K "fines_of" "fines_of" s_fines_of f fd) (B : Bi mg) : FnOk P w K mg base CX0 1 f fd ["days", "first", "behind"] (spFines K) := by
  refine F.ok sc_fines_of (fun vs H Q E h => ?_) (fun cdv A outer s H vs Q E hr h => ?_)
  · obtain ⟨x, ds, i, j, rfl, _⟩ := h
    rfl
  · obtain ⟨x, ds, i, j, rfl, hx, hl, q⟩ := h
    refine ⟨_, (pss_cons (ps_setLc (i := 3) (own := [("want", 4), ("loaf", 5), ("keep", 6), ("fine", 7)]) (g := (gTup K 4 (gCons (gName 4) (gCons (gName 5) (gCons (gName 6) (gCons (gName 7) gNil)))))) rfl sc_fines_of.nd rfl rfl (sw_true rfl rfl rfl (by decide +kernel)) (pi_list (pe_slice sl_list (pv 0) (po_some (pv 1)) (po_some (pv 2)))) (blkOk_by (own := [("want", 4), ("loaf", 5), ("keep", 6), ("fine", 7)]) (N := ["days", "first", "behind", "fines", "want", "loaf", "keep", "fine"]) (sc := defScope s_fines_of) (by decide +kernel)) (fun _ _ _ _ _ => (pg_tup rfl (pgs_cons (pg_name (i := 4) sc_fines_of.nd rfl (Or.inl rfl)) (pgs_cons (pg_name (i := 5) sc_fines_of.nd rfl (Or.inl rfl)) (pgs_cons (pg_name (i := 6) sc_fines_of.nd rfl (Or.inl rfl)) (pgs_cons (pg_name (i := 7) sc_fines_of.nd rfl (Or.inl rfl)) pgs_nil)))))) (fun _ _ _ _ _ => pts_nil) (fun _ _ _ _ _ => (pv 7)))
 (pss_one (ps_ret (pe_ifExp (pt_cmpR op_in_seq pe_non (pv 3) (by rfl)) pe_non (pe_callB (cr_sum rfl) (by rfl) B.sum (by decide +kernel) (pa_cons (pv 3) pa_nil)))))), ?_⟩
    cases hx with
    | lst hs ha =>
    rename_i a xs
    walk_at "wp"
    refine ⟨_, hs, fun p hp => ⟨⟨_, SqL.of upd_same⟩, fun D hD => ?_⟩⟩
    rw [cutV_nat] at hD ⊢
    have sp : Same H (upd H p (.lst ((xs.drop i).take (j - i)))) := same_upd hp
    have hL : SqL K (upd H p (.lst ((xs.drop i).take (j - i)))) p ((xs.drop i).take (j - i)) := SqL.of upd_same
    have hb := ((ha.same sp).drop i).take (j - i)
    rw [← List.map_drop, ← List.map_take] at hb
    generalize upd H p (.lst ((xs.drop i).take (j - i))) = Hb at sp hL hD hb ⊢
    generalize hcut : (ds.drop i).take (j - i) = cs at hb
    have hcl : cs.length ≤ 1000 := by
      rw [← hcut, List.length_take, List.length_drop]
      omega
    have hbl := hb.length
    rw [List.length_map] at hbl
    refine LcR.map walk_list ((cs.map Day.fine).map optV) hD (by rw [List.length_map, List.length_map, hbl]) (by omega) (fun H s => s.seq hL) (fun _ _ _ _ y => yat_same y) (fun i x y H0 H1 hi s1 yy hy R hR => ?_) (fun H1 s1 hH => ?_)
    · obtain ⟨rfl, hx⟩ := yy
      obtain ⟨d, hd, hxd⟩ := hb.get hx
      rw [List.getElem?_map] at hd hy
      rw [List.getElem?_map] at hy
      cases hc : cs[i]? with
      | none => rw [hc] at hd; cases hd
      | some c =>
        rw [hc] at hd hy
        cases hd
        cases hy
        obtain ⟨t, rfl, ht⟩ := (hxd.same s1).day
        walk_at "wp"
        refine ⟨_, ht, rfl, ?_⟩
        walk_at "wp"
        exact hR _ (Same.refl _)
    · have q1 := q _ (sp.trans s1)
      unfold finesL at q1
      rw [hcut] at q1
      refine ⟨_, .inl (SqL.of hH), rfl, flat_opts _, ite2 (fun h => ?_) (fun h => ?_)⟩
      · rw [sumO_none h] at q1
        exact q1
      · obtain ⟨ns, e1, e2⟩ := sumO_some (Bool.eq_false_iff.mpr h)
        rw [e2] at q1
        rw [e1] at hH
        exact ⟨ns, SqL.of hH, q1⟩
abbrev s_loaf_price : Stmt := top 42
theorem sc_loaf_price : FnScope ["good", "baked", "given", "days", "life", "want", "loaf", "keep", "fine", "fines"] ["good", "baked", "given"] (defScope s_loaf_price) := ⟨rfl, rfl, rfl, by decide +kernel, rfl, by decide +kernel, by decide +kernel⟩
def spLoafP (K : PySem.W.Frag) : Sp := fun vs H Q _ => ∃ x g, ∃ j k : Nat, vs = [x, .int (j : Int), .int (k : Int)] ∧ Th K H x (goodD g) ∧ g.days.length ≤ 1000 ∧ j < g.days.length ∧ ∀ H', Same H H' → Q (optV (loafP g j k)) H'
theorem ok_loaf_price {f : Addr} {fd : FuncData} (F : Fun K "loaf_price" "loaf_price" s_loaf_price f fd) (D_fines_of : Def P w K mg base "fines_of" 1 ["days", "first", "behind"] (spFines K)) (D_keeps_of : Def P w K mg base "keeps_of" 1 ["days", "first", "behind"] (spKeeps K)) : FnOk P w K mg base CX0 2 f fd ["good", "baked", "given"] (spLoafP K) := by
  refine F.ok sc_loaf_price (fun vs H Q E h => ?_) (fun cdv A outer s H vs Q E hr h => ?_)
  · obtain ⟨x, g, j, k, rfl, _⟩ := h
    rfl
  · obtain ⟨x, g, j, k, rfl, hx, hl, hj, q⟩ := h
    refine ⟨_, (pss_cons (ps_asg (pv 0) (pg_tup rfl (pgs_cons (pg_name (i := 3) sc_loaf_price.nd rfl (Or.inl rfl)) (pgs_cons (pg_name (i := 4) sc_loaf_price.nd rfl (Or.inl rfl)) pgs_nil))))
 (pss_cons (ps_asg (pe_ix ix_list (pv 3) (pv 1) (fun _ _ => rfl)) (pg_tup rfl (pgs_cons (pg_name (i := 5) sc_loaf_price.nd rfl (Or.inl rfl)) (pgs_cons (pg_name (i := 6) sc_loaf_price.nd rfl (Or.inl rfl)) (pgs_cons (pg_name (i := 7) sc_loaf_price.nd rfl (Or.inl rfl)) (pgs_cons (pg_name (i := 8) sc_loaf_price.nd rfl (Or.inl rfl)) pgs_nil))))))
 (pss_cons (ps_if (pt_cmpR op_gt (pv 1) (pv 2) (nomark _)) (pss_cons (ps_set (i := 9) sc_loaf_price.nd rfl (Or.inl rfl) (pe_callD D_fines_of hr (by rfl) (pa_cons (pv 3) (pa_cons (pv 2) (pa_cons (pv 1) pa_nil)))))
 (pss_one (ps_ret (pe_ifExp (pt_cmpR op_isN (pv 9) pe_non (nomark _)) pe_non (pe_op op_add (pv 6) (pv 9)))))) pss_nil)
 (pss_cons (ps_if (PW.pt (pw_and (pt_cmpR op_notN (pv 4) pe_non (nomark _)) (pw_and1 (pt_cmpR op_gt (pe_op op_sub (pv 2) (pv 1)) (pv 4) (nomark _))))) (pss_one (ps_ret pe_non)) pss_nil)
 (pss_one (ps_ret (pe_op op_add (pv 6) (pe_callD D_keeps_of hr (by rfl) (pa_cons (pv 3) (pa_cons (pv 1) (pa_cons (pv 2) pa_nil))))))))))), ?_⟩
    obtain ⟨t, a, xs, rfl, ht, hs, ha⟩ := hx.good
    have hd : g.days[j]? = some g.days[j] := List.getElem?_eq_getElem hj
    generalize g.days[j] = d at hd
    obtain ⟨v, hv, hvd⟩ := ha.get' (i := j) (d := dayD d) (by rw [List.getElem?_map, hd]; rfl)
    obtain ⟨t2, rfl, ht2⟩ := hvd.day
    walk_at "wp"
    refine ⟨_, ht, rfl, ?_⟩
    walk_at "wp"
    refine ⟨_, _, hs, atI_nat hv, ?_⟩
    walk_at "wp"
    refine ⟨_, ht2, rfl, ?_⟩
    walk_at "wp"
    refine ite2 (fun h => ?_) (fun h => ?_)
    · have hkj : k < j := by have := of_decide_eq_true h; omega
      refine ⟨_, g.days, k, j, rfl, .lst hs ha, hl, fun H1 s1 => ?_⟩
      have q1 := q H1 s1
      simp only [loafP, hd, hkj, if_true] at q1
      cases hf : finesL g.days k j with
      | none =>
        rw [hf] at q1
        simp only [optV]
        walk_at "wp"
        exact q1
      | some z =>
        rw [hf] at q1
        simp only [optV]
        walk_at "wp"
        exact q1
    · have hkj : ¬ k < j := by intro z; exact h (decide_eq_true (by omega))
      have q1 := fun H1 s1 => q H1 s1
      simp only [loafP, hd, hkj, if_false] at q1
      have hkeep : ∀ R : VK, (∀ H1, Same H H1 → R (.int (d.loaf + keepsL g.days j k)) H1) → spKeeps K [V.ref a, V.int (j : Int), V.int (k : Int)] H (fun y H2 => rI0 (fun i j => V.int (i + j)) (V.int d.loaf) y H2 R) E0 := fun R hR =>
        ⟨_, g.days, j, k, rfl, .lst hs ha, hl, fun H1 s1 => ⟨_, _, rfl, rfl, hR H1 s1⟩⟩
      cases hlf : g.life with
      | none =>
        simp only [hlf] at q1
        simp only [optV]
        walk_at "wp"
        exact hkeep Q q1
      | some l =>
        simp only [hlf] at q1
        simp only [optV]
        walk_at "wp"
        refine ite2 (fun h2 => ?_) (fun h2 => ?_)
        · have := q1 H (Same.refl _)
          rw [if_pos (of_decide_eq_true h2)] at this
          exact this
        · refine hkeep Q fun H1 s1 => ?_
          have := q1 H1 s1
          rw [if_neg (fun z => h2 (decide_eq_true z))] at this
          exact this
end
end Bk

namespace Bk
open PySem PySem.Spec PyProof.Rows L2
local macro_rules | `(tactic| walk_at "wp") => `(tactic| try simp only [tNever, tFor_eq, tLc_eq, iList, iTup, iRng1_eq, rRng1_i, iRng2_eq, rRng2_i, iEnum_eq, rEnum_r, iZip_eq, rZip_r, tSl, tPart, tNoPart, rSlL_r, rCat_r, rIn_r, gTup_r, gUnl_r, rInt1_b, rInt1_i, rRep_r, tStep_r, scal, tSeq, tNext, tAsg, tRet, tRetN, tIfS, tDrop, tCB, tCons, tNil, tVar, tOp, tUn, tC, rU_i, rI_ii, rI0_ii, rEq, rNe, tTest, tB, tAnd, tOr, tNot, tAndV, tOrV, tNotV, tIf, tChain, tLst, tTup, tBM, tBM0, rAppend_r, rIxL_r, rIxT_r, rMx_ii, rMn_ii, rLnL_r, rLnT_r, rIsD_int, rIsD_bool, rIsD_list, rIsD_tuple, tCall, gName, gNil_n, gCons_c, cxK, L2.start, List.map, List.replicate, List.length_cons, List.length_nil, List.cons_append, List.nil_append, List.append_nil, List.getElem?_cons_zero, List.getElem?_cons_succ, Option.some.injEq, exists_eq_left', exists_eq_left, V.int.injEq, V.bl.injEq, V.str.injEq, V.ref.injEq, List.cons.injEq, and_true, true_and, and_self, List.set, wipe, rAll_r, rSum_r, reduceCtorEq, decide_true, decide_false, reduceIte, ite_true, ite_false, if_true, if_false, Bool.false_eq_true, Bool.not_true, Bool.not_false])
local macro_rules | `(tactic| walk_at "shaped") => `(tactic| (simp only [SeqAt.shaped, PyData.canLay0, PyData.canLayAll0, PyData.depth, PyData.depthAll]; rfl))
local macro_rules | `(tactic| walk_at "lay") => `(tactic| (simp only [PyData.canLay0, PyData.canLayAll0]; rfl))
section
variable {P : Program} {w : World} {K : PySem.W.Frag} {mg : Str → Option Value} {base : Heap}
abbrev s_numbers : Stmt := top 78
theorem sc_numbers : FnScope ["_law_cell", "_law_salt", "_law_sizes", "_law_number", "_law_left", "_law_found", "_law_k", "_law_one"] ["_law_cell", "_law_salt", "_law_sizes"] (defScope s_numbers) := ⟨rfl, rfl, rfl, by decide +kernel, rfl, by decide +kernel, by decide +kernel⟩
/-- digits: one below each size -/
def Digs (zs fs : List Int) : Prop := fs.length = zs.length ∧ ∀ (i : Nat) (f z : Int), fs[i]? = some f → zs[i]? = some z → 0 ≤ f ∧ f < z
def spNumbers (K : PySem.W.Frag) : Sp := fun vs H Q _ => ∃ (c s : Int) (a : Addr) (zs : List Int), vs = [.int c, .int s, .ref a] ∧ SqL K H a (zs.map V.int) ∧ 0 ≤ s ∧ s ≤ 1000000 ∧ zs.length ≤ 1000 ∧ (∀ z ∈ zs, 0 < z ∧ z.natAbs < 2 ^ 200) ∧
  ∀ H' p fs, Same H H' → H p = none → Digs zs fs → H' p = some (.lst (fs.map V.int)) → Q (.ref p) H'
def NumI (H : Hp) (c s n : Int) (a p : Addr) (zs : List Int) (i : Nat) (σ : L2.St) (H' : Hp) : Prop := ∃ (l : Int) (fs : List Int) (y6 y7 : Option V), σ = [some (.int c), some (.int s), some (.ref a), some (.int n), some (.int l), some (.ref p), y6, y7] ∧ 0 ≤ l ∧ Same H H' ∧ H' p = some (.lst (fs.map V.int)) ∧ fs.length = i ∧
  ∀ (j : Nat) (f z : Int), fs[j]? = some f → zs[j]? = some z → 0 ≤ f ∧ f < z
theorem NumI.next {H H' : Hp} {c s n l x z : Int} {a p : Addr} {zs fs : List Int} {y6 y7 : Option V} (hp : H p = none) (hl : 0 ≤ l) (sm : Same H H') (hb : ∀ (j : Nat) (f z : Int), fs[j]? = some f → zs[j]? = some z → 0 ≤ f ∧ f < z) (g : zs[fs.length]? = some z) (h0 : 0 ≤ x) (h1 : x < z) :
    NumI H c s n a p zs (fs.length + 1) [some (.int c), some (.int s), some (.ref a), some (.int n), some (.int l), some (.ref p), y6, y7] (upd H' p (.lst (fs.map V.int ++ [.int x]))) := by
  refine ⟨l, fs ++ [x], y6, y7, rfl, hl, same_mut sm hp, by rw [upd_same, List.map_append]; rfl, by rw [List.length_append]; rfl, fun j f w e1 e2 => ?_⟩
  by_cases hj : j < fs.length
  · rw [List.getElem?_append_left hj] at e1
    exact hb j f w e1 e2
  · rw [List.getElem?_append_right (by omega)] at e1
    have ej : j - fs.length = 0 := by
      cases q : j - fs.length with
      | zero => rfl
      | succ m => rw [q] at e1; simp at e1
    have ej2 : j = fs.length := by omega
    subst ej2
    rw [ej] at e1
    have e3 : x = f := Option.some.inj e1
    have e4 : z = w := Option.some.inj (g.symm.trans e2)
    subst e3 e4
    exact ⟨h0, h1⟩
theorem ok_numbers {f : Addr} {fd : FuncData} {k : Nat} (F : Fun K "_law_numbers" "_law_numbers" s_numbers f fd) (B : Bi mg) : FnOk P w K mg base CX0 (k + 1) f fd ["_law_cell", "_law_salt", "_law_sizes"] (spNumbers K) := by
  refine F.ok sc_numbers (fun vs H Q E h => ?_) (fun cdv A outer s H vs Q E hr h => ?_)
  · obtain ⟨c, s, a, zs, rfl, _⟩ := h
    rfl
  · obtain ⟨c, s, a, zs, rfl, hS, hs0, hs1, hlen, hz, q⟩ := h
    refine ⟨_, (pss_cons (ps_set (i := 3) sc_numbers.nd rfl (Or.inl rfl) (pe_callB (call_mx rfl) (by rfl) B.max (by decide +kernel) (pa_cons (pv 0) (pa_cons (pe_op op_sub (pe_un un_neg pe_int) (pv 0)) pa_nil))))
 (pss_cons (ps_set (i := 4) sc_numbers.nd rfl (Or.inl rfl) (pv 3))
 (pss_cons (ps_set (i := 5) sc_numbers.nd rfl (Or.inl rfl) (pe_lst pa_nil))
 (pss_cons (ps_for PassesOwn.never rfl (pi_range1 (by rfl) B.range (pa_cons (pe_callB call_lnL (by rfl) B.len (by decide +kernel) (pa_cons (pv 2) pa_nil)) pa_nil)) (pg_name (i := 6) sc_numbers.nd rfl (Or.inl rfl)) (pss_one (ps_if (PW.pt (pw_and (pt_cmpR op_ge (pv 3) (pe_op op_pow pe_int pe_int) (nomark _)) (pw_and1 (pt_cmpR op_gt (pv 4) pe_int (nomark _))))) (pss_cons (ps_expr (pe_bm PySem.F.plainAttrs_list PySem.F.slot_list_append PySem.F.type_list_append mt_append (pv 5) (pa_cons (pe_op op_mod (pv 4) (pe_ix ix_list (pv 2) (pv 6) (fun _ _ => rfl))) pa_nil)))
 (pss_one (ps_set (i := 4) sc_numbers.nd rfl (Or.inl rfl) (pe_op op_fdivW (pv 4) (pe_ix ix_list (pv 2) (pv 6) (fun _ _ => rfl)))))) (pss_cons (ps_set (i := 7) sc_numbers.nd rfl (Or.inl rfl) (pe_op op_mod (pe_op op_pow (pe_op op_add (pe_op op_add (pe_op op_mod (pv 3) pe_int) (pe_op op_mul pe_int (pv 1))) pe_int) pe_int) pe_int))
 (pss_cons (ps_set (i := 7) sc_numbers.nd rfl (Or.inl rfl) (pe_op op_mod (pe_op op_mul (pe_op op_add (pv 7) (pe_op op_mul pe_int (pe_op op_add (pv 6) pe_int))) (pe_op op_add (pv 6) pe_int)) pe_int))
 (pss_cons (ps_set (i := 7) sc_numbers.nd rfl (Or.inl rfl) (pe_op op_mod (pe_op op_mul (pe_op op_mod (pe_op op_pow (pv 7) pe_int) pe_int) pe_int) pe_int))
 (pss_one (ps_expr (pe_bm PySem.F.plainAttrs_list PySem.F.slot_list_append PySem.F.type_list_append mt_append (pv 5) (pa_cons (pe_op op_mod (pe_op op_fdivW (pv 7) pe_int) (pe_ix ix_list (pv 2) (pv 6) (fun _ _ => rfl))) pa_nil))))))))))
 (pss_one (ps_ret (pv 5))))))), ?_⟩
    walk_at "wp"
    refine ⟨Nat.zero_le _, fun p hp => ?_⟩
    have hn0 : 0 ≤ (if -1 - c > c then -1 - c else c) := by split <;> omega
    generalize (if -1 - c > c then -1 - c else c) = n at hn0 ⊢
    refine ⟨_, hS.upd_ hp, by omega, by rw [List.length_map]; omega, ?_⟩
    rw [show (((zs.map V.int).length : Nat) : Int).toNat = zs.length by rw [List.length_map]; omega]
    refine LoopR.by walk_range (NumI H c s n a p zs) ⟨n, [], none, none, rfl, hn0, same_upd hp, upd_same, rfl, fun j f z e => by simp at e⟩ (fun _ _ _ _ _ => trivial) (fun i v σ H0 H' hi hI hY => ?_) (fun σ H' hI => ?_)
    · obtain ⟨l, fs, y6, y7, e, hl, sm, hf, hfl, hb⟩ := hI
      subst e
      obtain ⟨rfl, rfl⟩ := hY
      have g : zs[i]? = some zs[i] := List.getElem?_eq_getElem hi
      obtain ⟨hz0, hz1⟩ := hz _ (List.getElem_mem hi)
      generalize zs[i] = z at g hz0 hz1
      subst hfl
      have hA : SqL K H' a (zs.map V.int) := sm.seq hS
      have ga : atI (zs.map V.int) (0 + (fs.length : Int)) = some (.int z) := atI_map (by omega) (by rw [show (0 + (fs.length : Int)).toNat = fs.length by omega]; exact g)
      have sz : (fs.map V.int).length < sizeLine := sz100l (by rw [List.length_map]; omega)
      have hz9 : CDivW l z := wide_div hz0 hz1 (by decide) (by decide)
      walk_at "wp"
      refine ⟨⟨by decide, by decide, by decide⟩, ?_⟩
      have hB : ∀ o, SqL K (upd H' p o) a (zs.map V.int) := fun o => (same_mut sm hp).seq hS
      have p2 : NumI H c s n a p zs (fs.length + 1) [some (.int c), some (.int s), some (.ref a), some (.int n), some (.int (l / z)), some (.ref p), some (.int (0 + (fs.length : Int))), y7] (upd H' p (.lst (fs.map V.int ++ [.int (l % z)]))) :=
        NumI.next hp (Int.ediv_nonneg hl (by omega)) sm hb g (Int.emod_nonneg _ (by omega)) (Int.emod_lt_of_pos _ hz0)
      have p1 : ∀ (x : Int) (y7 : Option V), NumI H c s n a p zs (fs.length + 1) [some (.int c), some (.int s), some (.ref a), some (.int n), some (.int l), some (.ref p), some (.int (0 + (fs.length : Int))), y7] (upd H' p (.lst (fs.map V.int ++ [.int (x % z)]))) := fun x y7 =>
        NumI.next hp hl sm hb g (Int.emod_nonneg _ (by omega)) (Int.emod_lt_of_pos _ hz0)
      have m1 : 0 ≤ n % 2147483629 ∧ n % 2147483629 < 2147483629 := ⟨Int.emod_nonneg _ (by decide), Int.emod_lt_of_pos _ (by decide)⟩
      have m2 : ∀ x : Int, 0 ≤ x % 2147483629 ∧ x % 2147483629 < 2147483629 := fun x => ⟨Int.emod_nonneg _ (by decide), Int.emod_lt_of_pos _ (by decide)⟩
      have cp : ∀ x : Int, CPow (x % 2147483629) 5 := fun x => ⟨by decide, by decide, by have := m2 x; omega⟩
      have key : ∀ {R : Prop}, (∀ x : Int, ∃ xs v, SqL K H' a xs ∧ atI xs (0 + (fs.length : Int)) = some v ∧ R) → True := fun _ => trivial
      refine ite2 (fun _ => ite2 (fun _ => ?_) (fun _ => ?_)) (fun _ => ?_)
      · refine ⟨tyL (SqL.of hf), _, _, hA, ga, ?_⟩
        walk_at "wp"
        refine ⟨hz0, _, hf, sz, _, _, hB _, ga, ?_⟩
        walk_at "wp"
        exact ⟨hz9, p2⟩
      all_goals
        refine ⟨by decide, .inl ⟨by decide, by decide⟩, ⟨by decide, by decide, by omega⟩, by decide, .inl ⟨by decide, by decide⟩, .inr ⟨by omega, by omega⟩, by decide, cp _, by decide, .inr ⟨by decide, by decide⟩, by decide, tyL (SqL.of hf), wide_div (b := 10) (by decide) (by decide) (by decide) (by decide), _, _, hA, ga, ?_⟩
        walk_at "wp"
        exact ⟨hz0, _, hf, sz, p1 _ _⟩
    · obtain ⟨l, fs, y6, y7, e, hl, sm, hf, hfl, hb⟩ := hI
      subst e
      exact ⟨_, rfl, q H' p fs sm hp ⟨hfl, hb⟩ hf⟩
abbrev s_cell_at : Stmt := top 77
theorem sc_cell_at : FnScope ["_law_script", "_law_k"] ["_law_script", "_law_k"] (defScope s_cell_at) := ⟨rfl, rfl, rfl, by decide +kernel, rfl, by decide +kernel, by decide +kernel⟩
def spCellAt (K : PySem.W.Frag) : Sp := fun vs H Q _ => ∃ (a : Addr) (ns : List Int) (i : Nat), vs = [.ref a, .int (i : Int)] ∧ SqL K H a (ns.map V.int) ∧ ∀ c : Int, Q (.int c) H
theorem ok_cell_at {f : Addr} {fd : FuncData} (F : Fun K "_law_cell_at" "_law_cell_at" s_cell_at f fd) (B : Bi mg) : FnOk P w K mg base CX0 1 f fd ["_law_script", "_law_k"] (spCellAt K) := by
  refine F.ok sc_cell_at (fun vs H Q E h => ?_) (fun cdv A outer s H vs Q E hr h => ?_)
  · obtain ⟨a, ns, i, rfl, _⟩ := h
    rfl
  · obtain ⟨a, ns, i, rfl, hS, q⟩ := h
    refine ⟨_, (pss_cons (ps_if (pt_cmpR op_lt (pv 1) (pe_callB call_lnL (by rfl) B.len (by decide +kernel) (pa_cons (pv 0) pa_nil)) (nomark _)) (pss_one (ps_ret (pe_ix ix_list (pv 0) (pv 1) (fun _ _ => rfl)))) pss_nil)
 (pss_one (ps_ret pe_int))), ?_⟩
    walk_at "wp"
    refine ⟨_, hS, ite2 (fun h => ?_) (fun h => q _)⟩
    have hi : i < ns.length := by have := of_decide_eq_true h; rw [List.length_map] at this; omega
    exact ⟨_, _, hS, atI_map (by omega) (by rw [Int.toNat_natCast]; exact List.getElem?_eq_getElem hi), q _⟩
abbrev s_day : Stmt := top 80
theorem sc_day : FnScope ["_law_digits", "_law_late", "_law_want", "_law_loaf", "_law_keep", "_law_fine", "_law_light", "_law_none", "_law_far"] ["_law_digits", "_law_late"] (defScope s_day) := ⟨rfl, rfl, rfl, by decide +kernel, rfl, by decide +kernel, by decide +kernel⟩
def spDay (K : PySem.W.Frag) : Sp := fun vs H Q _ => ∃ (a : Addr) (fs zs : List Int) (late : Bool), vs = [.ref a, .bl late] ∧ SqL K H a (fs.map V.int) ∧ fs.length = 7 ∧ (∀ f ∈ fs, 0 ≤ f ∧ f ≤ 1000000000) ∧
  ∀ H' p t (d : Day) (l : Int), Same H H' → H p = none → H t = none → H' p = some (.tup [.int l, .ref t]) → H' t = some (.tup [.int d.want, .int d.loaf, .int d.keep, optV d.fine]) → numD (.int l) = true → dayB (dayD d) = true → Q (.ref p) H'
theorem numD_of {i : Int} (h : 0 ≤ i ∧ i ≤ 1000000000) : numD (.int i) = true := by
  simp only [numD, Bool.and_eq_true, decide_eq_true_eq]
  exact h
theorem ok_day {f : Addr} {fd : FuncData} (F : Fun K "_law_day" "_law_day" s_day f fd) (B : Bi mg) : FnOk P w K mg base CX0 1 f fd ["_law_digits", "_law_late"] (spDay K) := by
  refine F.ok sc_day (fun vs H Q E h => ?_) (fun cdv A outer s H vs Q E hr h => ?_)
  · obtain ⟨a, fs, zs, late, rfl, _⟩ := h
    rfl
  · obtain ⟨a, fs, zs, late, rfl, hS, h7, hb, q⟩ := h
    refine ⟨_, (pss_cons (ps_asg (pv 0) (pg_unl rfl (pgs_cons (pg_name (i := 2) sc_day.nd rfl (Or.inl rfl)) (pgs_cons (pg_name (i := 3) sc_day.nd rfl (Or.inl rfl)) (pgs_cons (pg_name (i := 4) sc_day.nd rfl (Or.inl rfl)) (pgs_cons (pg_name (i := 5) sc_day.nd rfl (Or.inl rfl)) (pgs_cons (pg_name (i := 6) sc_day.nd rfl (Or.inl rfl)) (pgs_cons (pg_name (i := 7) sc_day.nd rfl (Or.inl rfl)) (pgs_cons (pg_name (i := 8) sc_day.nd rfl (Or.inl rfl)) pgs_nil)))))))))
 (pss_one (ps_ret (pe_tup (pa_cons (pv 6) (pa_cons (pe_tup (pa_cons (pe_op op_mul (pv 2) (pe_callTy call_in1 (by rfl) B.int (by decide +kernel) (pa_cons (pe_cmpR op_gt (pv 7) pe_int (nomark _)) pa_nil))) (pa_cons (pv 3) (pa_cons (pv 4) (pa_cons (pe_ix ix_list (pe_lst (pa_cons pe_non (pa_cons (pv 5) pa_nil))) (pe_callTy call_in1 (by rfl) B.int (by decide +kernel) (pa_cons (pe_and (pv 1) (pe_one (pe_cmpR op_gt (pv 8) pe_int (nomark _)))) pa_nil)) (fun _ _ => rfl)) pa_nil))))) pa_nil)))))), ?_⟩
    obtain ⟨w1, f1, k1, n1, l1, o1, r1, rfl⟩ := seven h7
    have b1 := hb w1 (by simp)
    have b2 := hb l1 (by simp)
    have b3 := hb f1 (by simp)
    have b4 := hb k1 (by simp)
    have b5 := hb n1 (by simp)
    have fin : ∀ (H0 : Hp) (w2 : Int) (o : Option Int), Same H H0 → (w2 = w1 ∨ w2 = 0) → (o = some n1 ∨ o = none) → ∀ p, H0 p = none → ∀ p2, upd H0 p (.tup [.int w2, .int f1, .int k1, optV o]) p2 = none → Q (.ref p2) (upd (upd H0 p (.tup [.int w2, .int f1, .int k1, optV o])) p2 (.tup [.int l1, .ref p])) := by
      intro H0 w2 o S0 hw ho p hp p2 hp2
      have s2 := same_upd (o := .tup [.int l1, .ref p]) hp2
      refine q _ p2 p ⟨w2, f1, k1, o⟩ l1 ((S0.trans (same_upd hp)).trans s2) ((S0.trans (same_upd hp)).free hp2) (S0.free hp) upd_same (s2 _ _ upd_same) (numD_of b2) ?_
      have e1 : numD (.int w2) = true := by
        rcases hw with e | e
        · rw [e]
          exact numD_of b1
        · rw [e]
          rfl
      have e2 : (noneB (optD o) || numD (optD o)) = true := by
        rcases ho with e | e
        · rw [e]
          show (false || numD (.int n1)) = true
          rw [numD_of b5]
          rfl
        · rw [e]
          rfl
      simp only [dayD, dayB, e1, e2, numD_of b3, numD_of b4, Bool.and_self]
    walk_at "wp"
    refine ⟨_, hS, rfl, ?_⟩
    walk_at "wp"
    have hif : (if decide (0 < o1) = true then (1 : Int) else 0) = 1 ∨ (if decide (0 < o1) = true then (1 : Int) else 0) = 0 := by split <;> simp
    generalize (if decide (0 < o1) = true then (1 : Int) else 0) = o2 at hif ⊢
    have hw : w1 * o2 = w1 ∨ w1 * o2 = 0 := by rcases hif with e | e <;> rw [e] <;> omega
    refine ⟨.inl ⟨by omega, by omega⟩, sz100 (by decide), fun p3 h3 => ?_⟩
    generalize w1 * o2 = w2 at hw ⊢
    have S3 := same_upd (o := .lst [V.non, V.int n1]) h3
    have E3 : upd H p3 (.lst [V.non, V.int n1]) p3 = some (.lst [V.non, V.int n1]) := upd_same
    generalize upd H p3 (.lst [V.non, V.int n1]) = H3 at S3 E3 ⊢
    refine ite2 (fun h1 => ?_) (fun h1 => ?_)
    · by_cases h2 : decide (1 < r1) = true
      · rw [h2]
        walk_at "wp"
        exact ⟨_, _, SqL.of E3, atI_nat (j := 1) rfl, sz100 (by decide), fun p hp => ⟨sz100 (by decide), fun p2 hp2 => fin H3 w2 (some n1) S3 hw (.inl rfl) p hp p2 hp2⟩⟩
      · rw [Bool.eq_false_iff.mpr h2]
        walk_at "wp"
        exact ⟨_, _, SqL.of E3, atI_nat (j := 0) rfl, sz100 (by decide), fun p hp => ⟨sz100 (by decide), fun p2 hp2 => fin H3 w2 none S3 hw (.inr rfl) p hp p2 hp2⟩⟩
    · walk_at "wp"
      exact ⟨_, _, SqL.of E3, atI_nat (j := 0) rfl, sz100 (by decide), fun p hp => ⟨sz100 (by decide), fun p2 hp2 => fin H3 w2 none S3 hw (.inr rfl) p hp p2 hp2⟩⟩
end
end Bk

namespace Bk
open PySem PySem.Spec PyProof.Rows L2
local macro_rules | `(tactic| walk_at "wp") => `(tactic| try simp only [tNever, tFor_eq, tLc_eq, iList, iTup, iRng1_eq, rRng1_i, iRng2_eq, rRng2_i, iEnum_eq, rEnum_r, iZip_eq, rZip_r, tSl, tPart, tNoPart, rSlL_r, rCat_r, rIn_r, gTup_r, gUnl_r, rInt1_b, rInt1_i, rRep_r, tStep_r, scal, tSeq, tNext, tAsg, tRet, tRetN, tIfS, tDrop, tCB, tCons, tNil, tVar, tOp, tUn, tC, rU_i, rI_ii, rI0_ii, rEq, rNe, tTest, tB, tAnd, tOr, tNot, tAndV, tOrV, tNotV, tIf, tChain, tLst, tTup, tBM, tBM0, rAppend_r, rIxL_r, rIxT_r, rMx_ii, rMn_ii, rLnL_r, rLnT_r, rIsD_int, rIsD_bool, rIsD_list, rIsD_tuple, tCall, gName, gNil_n, gCons_c, cxK, L2.start, List.map, List.replicate, List.length_cons, List.length_nil, List.cons_append, List.nil_append, List.append_nil, List.getElem?_cons_zero, List.getElem?_cons_succ, Option.some.injEq, exists_eq_left', exists_eq_left, V.int.injEq, V.bl.injEq, V.str.injEq, V.ref.injEq, List.cons.injEq, and_true, true_and, and_self, List.set, wipe, rAll_r, rSum_r, reduceCtorEq, decide_true, decide_false, reduceIte, ite_true, ite_false, if_true, if_false, Bool.false_eq_true, Bool.not_true, Bool.not_false])
local macro_rules | `(tactic| walk_at "shaped") => `(tactic| (simp only [SeqAt.shaped, PyData.canLay0, PyData.canLayAll0, PyData.depth, PyData.depthAll]; rfl))
local macro_rules | `(tactic| walk_at "lay") => `(tactic| (simp only [PyData.canLay0, PyData.canLayAll0]; rfl))
section
variable {P : Program} {w : World} {K : PySem.W.Frag} {mg : Str → Option Value} {base : Heap}
abbrev s_bakery : Stmt := top 81
theorem sc_bakery : FnScope ["_law_script", "_law_upto", "_law_salt", "_law_head", "_law_sizes", "_law_lights", "_law_days", "_law_k", "_law_light", "_law_day_here"] ["_law_script", "_law_upto", "_law_salt"] (defScope s_bakery) := ⟨rfl, rfl, rfl, by decide +kernel, rfl, by decide +kernel, by decide +kernel⟩
def spBakery (K : PySem.W.Frag) : Sp := fun vs H Q _ => ∃ (a : Addr) (ns : List Int) (u : Nat) (s : Int), vs = [.ref a, .int (u : Int), .int s] ∧ SqL K H a (ns.map V.int) ∧ ns.length ≤ 63 ∧ u ≤ 41 ∧ 0 ≤ s ∧ s ≤ 10000 ∧
  ∀ (H' : Hp) (x : V) (ls : List Int) (g : Good), Same H H' → Tk (newOf H H') x (bakD ⟨ls, none, [g]⟩) → bakB (bakD ⟨ls, none, [g]⟩) = true → ls.length = nDays u ns.length → Q x H'
def livesO : List (Option Int) := [none, none, some 0, some 1, some 2, some 3, some 4, some 5, some 7, some 11, some 23, some 40]
theorem lives_at {i : Int} (h0 : 0 ≤ i) (h1 : i < 12) : ∃ o, atI (livesO.map optV) i = some (optV o) ∧ lifeB (optD o) = true := by
  have hi : i.toNat < livesO.length := by
    show i.toNat < 12
    omega
  refine ⟨livesO[i.toNat], atI_of h0 (by rw [List.getElem?_map, List.getElem?_eq_getElem hi]; rfl), ?_⟩
  have : ∀ o ∈ livesO, lifeB (optD o) = true := by decide
  exact this _ (List.getElem_mem hi)
structure BakI (K : PySem.W.Frag) (H H0 : Hp) (a pd sz L D : Addr) (u : Nat) (s : Int) (i : Nat) (σ : L2.St) (H' : Hp) : Prop where
  ex : ∃ (ls : List Int) (ds : List Day) (xs : List V) (y9 y10 y11 : Option V), σ = [some (.ref a), some (.int (u : Int)), some (.int s), some (.ref pd), some (.ref sz), some (.ref L), some (.ref D), y9, y10, y11] ∧
    Same H0 H' ∧ H' L = some (.lst (ls.map V.int)) ∧ H' D = some (.lst xs) ∧ TkAll (newBut H L D H') xs (ds.map dayD) ∧ ls.length = i ∧ ds.length = i ∧ (∀ z ∈ ls, numD (.int z) = true) ∧ (∀ z ∈ ds, dayB (dayD z) = true)
theorem ok_bakery {f : Addr} {fd : FuncData} (F : Fun K "_law_bakery" "_law_bakery" s_bakery f fd) (B : Bi mg) (D_numbers : Def P w K mg base "_law_numbers" 1 ["_law_cell", "_law_salt", "_law_sizes"] (spNumbers K)) (D_cell_at : Def P w K mg base "_law_cell_at" 1 ["_law_script", "_law_k"] (spCellAt K)) (D_day : Def P w K mg base "_law_day" 1 ["_law_digits", "_law_late"] (spDay K)) :
    FnOk P w K mg base CX0 2 f fd ["_law_script", "_law_upto", "_law_salt"] (spBakery K) := by
  refine F.ok sc_bakery (fun vs H Q E h => ?_) (fun cdv A outer s H vs Q E hr h => ?_)
  · obtain ⟨a, ns, u, s, rfl, _⟩ := h
    rfl
  · obtain ⟨a, ns, u, s, rfl, hS, hn, hu, hs0, hs1, q⟩ := h
    refine ⟨_, (pss_cons (ps_set (i := 3) sc_bakery.nd rfl (Or.inl rfl) (pe_callD D_numbers hr (by rfl) (pa_cons (pe_callD D_cell_at hr (by rfl) (pa_cons (pv 0) (pa_cons pe_int pa_nil))) (pa_cons (pv 2) (pa_cons (pe_lst (pa_cons pe_int (pa_cons pe_int (pa_cons pe_int pa_nil)))) pa_nil)))))
 (pss_cons (ps_set (i := 4) sc_bakery.nd rfl (Or.inl rfl) (pe_op op_cat (pe_ix ix_list (pe_lst (pa_cons (pe_lst (pa_cons pe_int (pa_cons pe_int (pa_cons pe_int (pa_cons pe_int (pa_cons pe_int pa_nil)))))) (pa_cons (pe_op op_rep (pe_lst (pa_cons (pe_op op_add (pe_op op_pow pe_int pe_int) pe_int) pa_nil)) pe_int) pa_nil))) (pe_callTy call_in1 (by rfl) B.int (by decide +kernel) (pa_cons (pe_cmpR op_eq (pe_ix ix_list (pv 3) pe_int (fun _ _ => rfl)) pe_int (nomark _)) pa_nil)) (fun _ _ => rfl)) (pe_lst (pa_cons pe_int (pa_cons pe_int pa_nil)))))
 (pss_cons (ps_set (i := 5) sc_bakery.nd rfl (Or.inl rfl) (pe_lst pa_nil))
 (pss_cons (ps_set (i := 6) sc_bakery.nd rfl (Or.inl rfl) (pe_lst pa_nil))
 (pss_cons (ps_for PassesOwn.never rfl (pi_range2 (by rfl) B.range (pa_cons pe_int (pa_cons (pe_callB (call_mx rfl) (by rfl) B.max (by decide +kernel) (pa_cons pe_int (pa_cons (pe_callB (call_mn rfl) (by rfl) B.min (by decide +kernel) (pa_cons (pv 1) (pa_cons (pe_callB call_lnL (by rfl) B.len (by decide +kernel) (pa_cons (pv 0) pa_nil)) pa_nil))) pa_nil))) pa_nil))) (pg_name (i := 7) sc_bakery.nd rfl (Or.inl rfl)) (pss_cons (ps_asg (pe_callD D_day hr (by rfl) (pa_cons (pe_callD D_numbers hr (by rfl) (pa_cons (pe_callD D_cell_at hr (by rfl) (pa_cons (pv 0) (pa_cons (pv 7) pa_nil))) (pa_cons (pe_op op_add (pv 2) (pv 7)) (pa_cons (pv 4) pa_nil)))) (pa_cons (pe_cmpR op_eq (pe_ix ix_list (pv 3) pe_int (fun _ _ => rfl)) pe_int (nomark _)) pa_nil))) (pg_tup rfl (pgs_cons (pg_name (i := 8) sc_bakery.nd rfl (Or.inl rfl)) (pgs_cons (pg_name (i := 9) sc_bakery.nd rfl (Or.inl rfl)) pgs_nil))))
 (pss_cons (ps_expr (pe_bm PySem.F.plainAttrs_list PySem.F.slot_list_append PySem.F.type_list_append mt_append (pv 5) (pa_cons (pv 8) pa_nil)))
 (pss_one (ps_expr (pe_bm PySem.F.plainAttrs_list PySem.F.slot_list_append PySem.F.type_list_append mt_append (pv 6) (pa_cons (pv 9) pa_nil)))))))
 (pss_one (ps_ret (pe_tup (pa_cons (pv 5) (pa_cons pe_non (pa_cons (pe_lst (pa_cons (pe_tup (pa_cons (pv 6) (pa_cons (pe_ix ix_list (pe_lst (pa_cons pe_non (pa_cons pe_non (pa_cons pe_int (pa_cons pe_int (pa_cons pe_int (pa_cons pe_int (pa_cons pe_int (pa_cons pe_int (pa_cons pe_int (pa_cons pe_int (pa_cons pe_int (pa_cons pe_int pa_nil))))))))))))) (pe_ix ix_list (pv 3) pe_int (fun _ _ => rfl)) (fun _ _ => rfl)) pa_nil))) pa_nil)) pa_nil))))))))))), ?_⟩
    walk_at "wp"
    refine ⟨a, ns, 0, rfl, hS, fun c => ⟨sz100 (by decide), fun p1 h1 => ?_⟩⟩
    refine ⟨c, s, p1, [3, 12, 2], rfl, SqL.of upd_same, hs0, by omega, by decide, by decide, fun H1 pd fs S1 hpd hD hfs => ?_⟩
    have S1 := (same_upd h1).trans S1
    obtain ⟨f0, f1, f2, rfl⟩ := three hD.1
    have b1 := hD.2 1 f1 _ rfl rfl
    have hF : SqL K H1 pd [V.int f0, V.int f1, V.int f2] := SqL.of hfs
    clear hD h1 hpd hfs
    walk_at "wp"
    refine ⟨sz100 (by decide), fun p2 h2 => ⟨⟨by decide, by decide, by decide⟩, sz100 (by decide), fun p3 h3 => ?_⟩⟩
    have S2 := same_upd (o := .lst [V.int 5, V.int 6, V.int 4, V.int 4, V.int 13]) h2
    have E2 : upd H1 p2 (.lst [V.int 5, V.int 6, V.int 4, V.int 4, V.int 13]) p2 = some (.lst ([5, 6, 4, 4, 13].map V.int)) := upd_same
    generalize upd H1 p2 (.lst [V.int 5, V.int 6, V.int 4, V.int 4, V.int 13]) = H2 at S2 E2 h3 ⊢
    have S3 := same_upd (o := .lst [V.int (10 ^ Int.toNat 9 + 1)]) h3
    have E3 : upd H2 p3 (.lst [V.int (10 ^ Int.toNat 9 + 1)]) p3 = some (.lst [V.int (10 ^ Int.toNat 9 + 1)]) := upd_same
    generalize upd H2 p3 (.lst [V.int (10 ^ Int.toNat 9 + 1)]) = H3 at S3 E3 ⊢
    refine ⟨_, E3, by decide, by decide, sz100 (by show 1 * 5 ≤ 100000; decide), fun p4 h4 => ⟨sz100 (by decide), fun p5 h5 => ?_⟩⟩
    have S4 := same_upd (o := .lst (List.replicate (Int.toNat 5) [V.int (10 ^ Int.toNat 9 + 1)]).flatten) h4
    have E4 : upd H3 p4 (.lst (List.replicate (Int.toNat 5) [V.int (10 ^ Int.toNat 9 + 1)]).flatten) p4 = some (.lst ([1000000001, 1000000001, 1000000001, 1000000001, 1000000001].map V.int)) := upd_same
    generalize upd H3 p4 (.lst (List.replicate (Int.toNat 5) [V.int (10 ^ Int.toNat 9 + 1)]).flatten) = H4 at S4 E4 h5 ⊢
    have S5 := same_upd (o := .lst [V.ref p2, V.ref p4]) h5
    have E5 : upd H4 p5 (.lst [V.ref p2, V.ref p4]) p5 = some (.lst [V.ref p2, V.ref p4]) := upd_same
    generalize upd H4 p5 (.lst [V.ref p2, V.ref p4]) = H5 at S5 E5 ⊢
    refine ⟨_, _, (S2.trans (S3.trans (S4.trans S5))).seq hF, atI_nat (j := 0) rfl, ?_⟩
    walk_at "wp"
    have hpick : ∃ (pz : Addr) (z5 : List Int), atI [V.ref p2, V.ref p4] (if decide (f0 = 0) = true then 1 else 0) = some (V.ref pz) ∧ H5 pz = some (.lst (z5.map V.int)) ∧ z5.length = 5 ∧ ∀ z ∈ z5, 0 < z ∧ z ≤ 1000000001 := by
      cases decide (f0 = 0) with
      | false => exact ⟨p2, _, rfl, (S3.trans (S4.trans S5)) _ _ E2, rfl, by decide⟩
      | true => exact ⟨p4, _, rfl, S5 _ _ E4, rfl, by decide⟩
    obtain ⟨pz, z5, hz1, hz2, hz3, hz4⟩ := hpick
    refine ⟨_, _, SqL.of E5, hz1, sz100 (by decide), fun p6 h6 => ?_⟩
    have S6 := same_upd (o := .lst [V.int 4, V.int 5]) h6
    have E6 : upd H5 p6 (.lst [V.int 4, V.int 5]) p6 = some (.lst [V.int 4, V.int 5]) := upd_same
    generalize upd H5 p6 (.lst [V.int 4, V.int 5]) = H6 at S6 E6 ⊢
    walk_at "wp"
    refine ⟨_, _, S6 _ _ hz2, E6, sz100 (by rw [List.length_map, hz3]; decide), fun p7 h7 => ?_⟩
    have S7 := same_upd (o := .lst (z5.map V.int ++ [V.int 4, V.int 5])) h7
    have E7 : upd H6 p7 (.lst (z5.map V.int ++ [V.int 4, V.int 5])) p7 = some (.lst ((z5 ++ [4, 5]).map V.int)) := by rw [upd_same, List.map_append]; rfl
    generalize upd H6 p7 (.lst (z5.map V.int ++ [V.int 4, V.int 5])) = H7 at S7 E7 ⊢
    have hz5 : ∀ z ∈ z5 ++ [4, 5], 0 < z ∧ z ≤ 1000000001 := by
      intro z hz
      rcases List.mem_append.mp hz with h | h
      · exact hz4 z h
      · have : z = 4 ∨ z = 5 := by simpa using h
        omega
    have hz6 : (z5 ++ [4, 5]).length = 7 := by rw [List.length_append, hz3]; rfl
    generalize z5 ++ [4, 5] = szs at E7 hz5 hz6
    have SA : Same H H7 := S1.trans (S2.trans (S3.trans (S4.trans (S5.trans (S6.trans S7)))))
    have SF : Same H1 H7 := S2.trans (S3.trans (S4.trans (S5.trans (S6.trans S7))))
    clear S2 S3 S4 S5 S6 S7 E2 E3 E4 E5 E6 hz1 hz2 hz3 hz4 h2 h3 h4 h5 h6 h7
    refine ⟨Nat.zero_le _, fun L hL => ⟨Nat.zero_le _, fun D hD => ?_⟩⟩
    have hLD : L ≠ D := fun z => by rw [z, upd_same] at hD; cases hD
    have hD0 : H7 D = none := (same_upd hL).free hD
    have SB : Same H7 (upd (upd H7 L (.lst [])) D (.lst [])) := (same_upd hL).trans (same_upd hD)
    have EL : upd (upd H7 L (.lst [])) D (.lst []) L = some (.lst []) := by rw [upd_ne hLD, upd_same]
    have ED : upd (upd H7 L (.lst [])) D (.lst []) D = some (.lst []) := upd_same
    generalize upd (upd H7 L (.lst [])) D (.lst []) = H8 at SB EL ED ⊢
    refine ⟨_, (SA.trans SB).seq hS, ⟨by decide, by decide, by omega, ?_⟩, ?_⟩
    · rw [List.length_map]
      split <;> split <;> omega
    · rw [List.length_map, show ((if (if (ns.length : Int) < (u : Int) then (ns.length : Int) else (u : Int)) > 2 then (if (ns.length : Int) < (u : Int) then (ns.length : Int) else (u : Int)) else 2) - 1).toNat = nDays u ns.length by unfold nDays; split <;> split <;> omega]
      refine LoopR.by walk_range (BakI K H H7 a pd p7 L D u s) ⟨⟨[], [], [], none, none, none, rfl, SB, EL, ED, .nil, rfl, rfl, (by intro _ h; cases h), (by intro _ h; cases h)⟩⟩ (fun _ _ _ _ _ => trivial) (fun i v σ H0 H' hi hI hY => ?_) (fun σ H' hI => ?_)
      · obtain ⟨rfl, rfl⟩ := hY
        obtain ⟨ls, ds, xs, y9, y10, y11, rfl, S9, E9, E10, hT, hll, hdl, hlb, hdb⟩ := hI.ex
        have hi40 : (i : Int) < 41 := by unfold nDays at hi; omega
        walk_at "wp"
        refine ⟨a, ns, 1 + i, congrArg (fun z => [V.ref a, V.int z]) (by omega), (SA.trans S9).seq hS, fun c => ?_⟩
        refine ⟨c, s + (1 + (i : Int)), p7, szs, rfl, S9.seq (SqL.of E7), by omega, by omega, by omega, fun z hz => ⟨(hz5 z hz).1, ?_⟩, fun H9 pe fs T1 hpe hDg hfs => ?_⟩
        · have := hz5 z hz
          exact Nat.lt_of_le_of_lt (show z.natAbs ≤ 1000000001 by omega) (by decide)
        walk_at "wp"
        refine ⟨_, _, ((SF.trans S9).trans T1).seq hF, atI_nat (j := 2) rfl, ?_⟩
        walk_at "wp"
        refine ⟨pe, fs, [], decide (f2 = 1), rfl, SqL.of hfs, hDg.1.trans hz6, fun f hf => ?_, fun HA p t d l T2 hp ht Ep Et hl hd => ?_⟩
        · obtain ⟨j, hj, e⟩ := List.getElem_of_mem hf
          have h1 : j < szs.length := by rw [← hDg.1]; exact hj
          have h2 := hDg.2 j f szs[j] (by rw [List.getElem?_eq_getElem hj, e]) (List.getElem?_eq_getElem h1)
          have h3 := hz5 _ (List.getElem_mem h1)
          omega
        have T3 := T1.trans T2
        have EL2 := T3 _ _ E9
        have ED2 := T3 _ _ E10
        walk_at "wp"
        refine ⟨_, SqT.of Ep, rfl, ?_⟩
        walk_at "wp"
        have ED3 : upd HA L (.lst (ls.map V.int ++ [V.int l])) D = some (.lst xs) := by rw [upd_ne hLD.symm]; exact ED2
        have szl : (ls.map V.int).length < sizeLine := sz100l (by rw [List.length_map, hll]; omega)
        have szd : xs.length < sizeLine := sz100l (by rw [hT.length, List.length_map, hdl]; omega)
        refine ⟨tyL (SqL.of EL2), _, EL2, szl, tyL (SqL.of ED3), _, ED3, szd, ⟨ls ++ [l], ds ++ [d], _, _, _, _, rfl, ?_, ?_, upd_same, ?_, ?_, ?_, ?_, ?_⟩⟩
        · exact same_mut (same_mut (S9.trans T3) hL) hD0
        · rw [upd_ne hLD, upd_same, List.map_append]
          rfl
        · have htL : t ≠ L := ne_of Et EL2 (by intro z; cases z)
          have htD : t ≠ D := ne_of Et ED2 (by intro z; cases z)
          have hnt : H t = none := ((SA.trans S9).trans T1).free ht
          rw [List.map_append]
          refine (hT.same (newBut_mono fun b o h1 h2 e => ?_)).append (.cons ?_ .nil)
          · rw [upd_ne h2, upd_ne h1]
            exact T3 _ _ e
          · have e : newBut H L D (upd (upd HA L (.lst (ls.map V.int ++ [V.int l]))) D (.lst (xs ++ [V.ref t]))) t = some (.tup [.int d.want, .int d.loaf, .int d.keep, optV d.fine]) := newBut_at hnt htL htD (by rw [upd_ne htD, upd_ne htL]; exact Et)
            exact .tup e (.cons (.int _) (.cons (.int _) (.cons (.int _) (.cons (Tk.optV _) .nil))))
        · rw [List.length_append, hll]
          rfl
        · rw [List.length_append, hdl]
          rfl
        · intro z hz
          rcases List.mem_append.mp hz with h | h
          · exact hlb z h
          · rw [List.mem_singleton.mp h]
            exact hl
        · intro z hz
          rcases List.mem_append.mp hz with h | h
          · exact hdb z h
          · rw [List.mem_singleton.mp h]
            exact hd
      · obtain ⟨ls, ds, xs, y9, y10, y11, rfl, S9, E9, E10, hT, hll, hdl, hlb, hdb⟩ := hI.ex
        walk_at "wp"
        refine ⟨sz100 (by decide), fun p3 h3 => ?_⟩
        have S3 := same_upd (o := .lst (livesO.map optV)) h3
        have E3 : upd H' p3 (.lst (livesO.map optV)) p3 = some (.lst (livesO.map optV)) := upd_same
        change ∃ xs v, SqL K (upd H' p3 (.lst (livesO.map optV))) pd xs ∧ atI xs 1 = some v ∧ rIxL K (V.ref p3) v (upd H' p3 (.lst (livesO.map optV))) _
        generalize upd H' p3 (.lst (livesO.map optV)) = H3 at S3 E3 ⊢
        refine ⟨_, _, ((SF.trans S9).trans S3).seq hF, atI_nat (j := 1) rfl, ?_⟩
        obtain ⟨o1, ho1, hob1⟩ := lives_at b1.1 b1.2
        refine ⟨p3, _, f1, _, rfl, rfl, SqL.of E3, ho1, sz100 (by decide), fun t1 ht1 => ⟨sz100 (by decide), fun g hg => ?_⟩⟩
        have S4 := same_upd (o := .tup [V.ref D, optV o1]) ht1
        have E4 : upd H3 t1 (.tup [V.ref D, optV o1]) t1 = some (.tup [V.ref D, optV o1]) := upd_same
        generalize upd H3 t1 (.tup [V.ref D, optV o1]) = H4 at S4 E4 hg ⊢
        have S5 := same_upd (o := .lst [V.ref t1]) hg
        have E5 : upd H4 g (.lst [V.ref t1]) g = some (.lst [V.ref t1]) := upd_same
        generalize upd H4 g (.lst [V.ref t1]) = H5 at S5 E5 ⊢
        refine ⟨sz100 (by decide), fun pf hpf => ?_⟩
        have S6 := same_upd (o := .tup [V.ref L, V.non, V.ref g]) hpf
        have E6 : upd H5 pf (.tup [V.ref L, V.non, V.ref g]) pf = some (.tup [V.ref L, V.non, V.ref g]) := upd_same
        generalize upd H5 pf (.tup [V.ref L, V.non, V.ref g]) = H6 at S6 E6 ⊢
        have S26 := S3.trans (S4.trans (S5.trans S6))
        have S09 := SA.trans S9
        have S06 := S09.trans S26
        have hL0 : H L = none := SA.free hL
        have hDn : H D = none := SA.free hD0
        have hg0 : H g = none := (S09.trans (S3.trans S4)).free hg
        have ht0 : H t1 = none := (S09.trans S3).free ht1
        have hf0 : H pf = none := (S09.trans (S3.trans (S4.trans S5))).free hpf
        have hd6 : Tk (newOf H H6) (.ref D) (.list (ds.map dayD)) := .lst (newOf_at hDn (S26 _ _ E10)) (hT.same ((newBut_same _ _ _ _).trans (newOf_mono S26)))
        have hl6 : Tk (newOf H H6) (.ref L) (.list (ls.map PyData.int)) := .lst (newOf_at hL0 (S26 _ _ E9)) (TkAll.ints ls)
        have hnd : 1 ≤ nDays u ns.length ∧ nDays u ns.length ≤ 40 := by unfold nDays; omega
        refine q _ _ ls ⟨ds, o1⟩ S06 ?_ ?_ hll
        · exact .tup (newOf_at hf0 E6) (.cons hl6 (.cons .non (.cons (.lst (newOf_at hg0 (S6 _ _ E5)) (.cons (.tup (newOf_at ht0 (S6 _ _ (S5 _ _ E4))) (.cons hd6 (.cons (Tk.optV o1) .nil))) .nil)) .nil)))
        · refine bakB_mk (by show 1 ≤ ls.length; omega) (by show ls.length ≤ 40; omega) hlb rfl (by show 1 ≤ 1; decide) (by show 1 ≤ 2; decide) (fun g' hg' => ?_)
          rw [List.mem_singleton.mp hg']
          exact ⟨by show ds.length = ls.length; omega, hob1, hdb⟩
end
end Bk

namespace Bk
open PySem PySem.Spec PyProof.Rows L2
local macro_rules | `(tactic| walk_at "wp") => `(tactic| try simp only [Int.zero_add, tNever, tFor_eq, tLc_eq, iList, iTup, iRng1_eq, rRng1_i, iRng2_eq, rRng2_i, iEnum_eq, rEnum_r, iZip_eq, rZip_r, tSl, tPart, tNoPart, rSlL_r, rCat_r, rIn_r, rNin_r, rRepr_r, rRg1_i, rRg2_i, rInr_r, tAug, ipI_ii, tLstRg, tRg1, tRg2, gTup_r, gUnl_r, rInt1_b, rInt1_i, rRep_r, tStep_r, scal, tSeq, tNext, tAsg, tRet, tRetN, tIfS, tDrop, tCB, tCons, tNil, tVar, tOp, tUn, tC, rU_i, rI_ii, rI0_ii, rEq, rNe, tTest, tB, tAnd, tOr, tNot, tAndV, tOrV, tNotV, tIf, tChain, tLst, tTup, tBM, tBM0, rAppend_r, rIxL_r, rIxT_r, rMx_ii, rMn_ii, rLnL_r, rLnT_r, rIsD_int, rIsD_bool, rIsD_list, rIsD_tuple, tCall, gName, gNil_n, gCons_c, cxK, L2.start, List.map, List.replicate, List.length_cons, List.length_nil, List.cons_append, List.nil_append, List.append_nil, List.getElem?_cons_zero, List.getElem?_cons_succ, Option.some.injEq, exists_eq_left', exists_eq_left, V.int.injEq, V.bl.injEq, V.str.injEq, V.ref.injEq, List.cons.injEq, and_true, true_and, and_self, List.set, wipe, rAll_r, rSum_r, reduceCtorEq, decide_true, decide_false, reduceIte, ite_true, ite_false, if_true, if_false, Bool.false_eq_true, Bool.not_true, Bool.not_false])
local macro_rules | `(tactic| walk_at "shaped") => `(tactic| (simp only [SeqAt.shaped, PyData.canLay0, PyData.canLayAll0, PyData.depth, PyData.depthAll]; rfl))
local macro_rules | `(tactic| walk_at "lay") => `(tactic| (simp only [PyData.canLay0, PyData.canLayAll0]; rfl))
section
variable {P : Program} {w : World} {K : PySem.W.Frag} {mg : Str → Option Value} {base : Heap}
abbrev s_wanted_price : Stmt := top 43
theorem sc_wanted_price : FnScope ["good", "baked", "given", "days", "life", "want", "each"] ["good", "baked", "given"] (defScope s_wanted_price) := ⟨rfl, rfl, rfl, by decide +kernel, rfl, by decide +kernel, by decide +kernel⟩
def okDays (g : Good) : Prop := ∀ d ∈ g.days, dayB (dayD d) = true
theorem want_ok {g : Good} (h : okDays g) {d : Day} (hd : d ∈ g.days) : 0 ≤ d.want ∧ d.want ≤ 1000000000 := by
  have k := h d hd
  simp only [dayD, dayB, Bool.and_eq_true] at k
  have k := k.1.1.1
  simp only [numD, Bool.and_eq_true, decide_eq_true_eq] at k
  exact k
def spWanted (K : PySem.W.Frag) : Sp := fun vs H Q _ => ∃ x g, ∃ j k : Nat, vs = [x, .int (j : Int), .int (k : Int)] ∧ Th K H x (goodD g) ∧ okDays g ∧ g.days.length ≤ 1000 ∧ j < g.days.length ∧ k < g.days.length ∧ ∀ H', Same H H' → Q (optV (wantP g j k)) H'
theorem ok_wanted_price {f : Addr} {fd : FuncData} (F : Fun K "wanted_price" "wanted_price" s_wanted_price f fd) (D_loaf_price : Def P w K mg base "loaf_price" 2 ["good", "baked", "given"] (spLoafP K)) : FnOk P w K mg base CX0 3 f fd ["good", "baked", "given"] (spWanted K) := by
  refine F.ok sc_wanted_price (fun vs H Q E h => ?_) (fun cdv A outer s H vs Q E hr h => ?_)
  · obtain ⟨x, g, j, k, rfl, _⟩ := h
    rfl
  · obtain ⟨x, g, j, k, rfl, hx, hok, hl, hj, hk, q⟩ := h
    refine ⟨_, (pss_cons (ps_asg (pv 0) (pg_tup rfl (pgs_cons (pg_name (i := 3) sc_wanted_price.nd rfl (Or.inl rfl)) (pgs_cons (pg_name (i := 4) sc_wanted_price.nd rfl (Or.inl rfl)) pgs_nil))))
 (pss_cons (ps_set (i := 5) sc_wanted_price.nd rfl (Or.inl rfl) (pe_ix ix_tup (pe_ix ix_list (pv 3) (pv 2) (fun _ _ => rfl)) pe_int (fun _ _ => rfl)))
 (pss_cons (ps_if (pt_cmpR op_eq (pv 5) pe_int (nomark _)) (pss_one (ps_ret pe_int)) pss_nil)
 (pss_cons (ps_set (i := 6) sc_wanted_price.nd rfl (Or.inl rfl) (pe_callD D_loaf_price hr (by rfl) (pa_cons (pv 0) (pa_cons (pv 1) (pa_cons (pv 2) pa_nil)))))
 (pss_one (ps_ret (pe_ifExp (pt_cmpR op_isN (pv 6) pe_non (nomark _)) pe_non (pe_op op_mul (pv 5) (pv 6))))))))), ?_⟩
    obtain ⟨t, a, xs, rfl, ht, hs, ha⟩ := hx.good
    have hd : g.days[k]? = some g.days[k] := List.getElem?_eq_getElem hk
    have hw := want_ok hok (List.getElem_mem hk)
    generalize g.days[k] = d at hd hw
    obtain ⟨v, hv, hvd⟩ := ha.get' (i := k) (d := dayD d) (by rw [List.getElem?_map, hd]; rfl)
    obtain ⟨t2, rfl, ht2⟩ := hvd.day
    walk_at "wp"
    refine ⟨_, ht, rfl, ?_⟩
    walk_at "wp"
    refine ⟨_, _, hs, atI_nat hv, ?_⟩
    walk_at "wp"
    refine ⟨_, _, ht2, atI_nat (j := 0) rfl, ?_⟩
    have q1 := fun H1 s1 => q H1 s1
    simp only [wantP, hd] at q1
    walk_at "wp"
    refine ite2 (fun h => ?_) (fun h => ?_)
    · have e : d.want = 0 := of_decide_eq_true h
      have := q1 H (Same.refl _)
      rw [if_pos e] at this
      exact this
    · have e : ¬ d.want = 0 := fun z => h (decide_eq_true z)
      refine ⟨_, g, j, k, rfl, hx, hl, hj, fun H1 s1 => ?_⟩
      have q2 := q1 H1 s1
      rw [if_neg e] at q2
      cases hp : loafP g j k with
      | none =>
        rw [hp] at q2
        simp only [optV]
        walk_at "wp"
        exact q2
      | some z =>
        rw [hp] at q2
        simp only [optV]
        walk_at "wp"
        exact ⟨.inl ⟨by omega, by omega⟩, q2⟩
end
end Bk

namespace Bk
open PySem PySem.Spec PyProof.Rows L2
local macro_rules | `(tactic| walk_at "wp") => `(tactic| try simp only [Int.zero_add, tNever, tFor_eq, tLc_eq, iList, iTup, iRng1_eq, rRng1_i, iRng2_eq, rRng2_i, iEnum_eq, rEnum_r, iZip_eq, rZip_r, tSl, tPart, tNoPart, rSlL_r, rCat_r, rIn_r, rNin_r, rRepr_r, iRevR, rMin_r, rRg1_i, rRg2_i, rInr_r, tAug, ipI_ii, tLstRg, tRg1, tRg2, gTup_r, gUnl_r, rInt1_b, rInt1_i, rRep_r, tStep_r, scal, tSeq, tNext, tAsg, tRet, tRetN, tIfS, tDrop, tCB, tCons, tNil, tVar, tOp, tUn, tC, rU_i, rI_ii, rI0_ii, rEq, rNe, tTest, tB, tAnd, tOr, tNot, tAndV, tOrV, tNotV, tIf, tChain, tLst, tTup, tBM, tBM0, rAppend_r, rIxL_r, rIxT_r, rMx_ii, rMn_ii, rLnL_r, rLnT_r, rIsD_int, rIsD_bool, rIsD_list, rIsD_tuple, tCall, gName, gNil_n, gCons_c, cxK, L2.start, List.map, List.replicate, List.length_cons, List.length_nil, List.cons_append, List.nil_append, List.append_nil, List.getElem?_cons_zero, List.getElem?_cons_succ, Option.some.injEq, exists_eq_left', exists_eq_left, V.int.injEq, V.bl.injEq, V.str.injEq, V.ref.injEq, List.cons.injEq, and_true, true_and, and_self, List.set, wipe, rAll_r, rSum_r, reduceCtorEq, decide_true, decide_false, reduceIte, ite_true, ite_false, if_true, if_false, Bool.false_eq_true, Bool.not_true, Bool.not_false])
local macro_rules | `(tactic| walk_at "shaped") => `(tactic| (simp only [SeqAt.shaped, PyData.canLay0, PyData.canLayAll0, PyData.depth, PyData.depthAll]; rfl))
local macro_rules | `(tactic| walk_at "lay") => `(tactic| (simp only [PyData.canLay0, PyData.canLayAll0]; rfl))
section
variable {P : Program} {w : World} {K : PySem.W.Frag} {mg : Str → Option Value} {base : Heap}
abbrev s_is_plain : Stmt := top 36
theorem sc_is_plain : FnScope ["bakery", "lights", "bound", "goods"] ["bakery"] (defScope s_is_plain) := ⟨rfl, rfl, rfl, by decide +kernel, rfl, by decide +kernel, by decide +kernel⟩
def spPlain (K : PySem.W.Frag) (r : V) : Sp := fun vs H Q _ => ∃ x b, vs = [x] ∧ Th K H x (bakD b) ∧ bakB (bakD b) = true ∧ b.bound = none ∧ b.goods.length = 1 ∧ ∀ H', Same H H' → Q r H'
theorem ok_is_plain {f : Addr} {fd : FuncData} (F : Fun K "is_plain" "is_plain" s_is_plain f fd) (B : Bi mg) (D_look_at_bakery : Def P w K mg base "look_at_bakery" 6 ["thing"] (spLook K)) : FnOk P w K mg base CX0 7 f fd ["bakery"] (spPlain K (.bl true)) := by
  refine F.ok sc_is_plain (fun vs H Q E h => ?_) (fun cdv A outer s H vs Q E hr h => ?_)
  · obtain ⟨x, b, rfl, _⟩ := h
    rfl
  · obtain ⟨x, b, rfl, hx, hb, hbo, hg, q⟩ := h
    refine ⟨_, (pss_cons (ps_expr (pe_callD D_look_at_bakery hr (by rfl) (pa_cons (pv 0) pa_nil)))
 (pss_cons (ps_asg (pv 0) (pg_tup rfl (pgs_cons (pg_name (i := 1) sc_is_plain.nd rfl (Or.inl rfl)) (pgs_cons (pg_name (i := 2) sc_is_plain.nd rfl (Or.inl rfl)) (pgs_cons (pg_name (i := 3) sc_is_plain.nd rfl (Or.inl rfl)) pgs_nil)))))
 (pss_one (ps_ret (pe_and (pe_cmpR op_isN (pv 2) pe_non (nomark _)) (pe_one (pe_cmpR op_eq (pe_callB call_lnL (by rfl) B.len (by decide +kernel) (pa_cons (pv 3) pa_nil)) pe_int (nomark _)))))))), ?_⟩
    walk_at "wp"
    refine ⟨_, _, rfl, hx, hb, fun H1 s1 => ?_⟩
    obtain ⟨a, l, v2, ga, xl, xg, rfl, ht, hl, hla, h2, hgl, hga⟩ := Th.bak (hx.same s1)
    have e2 := h2.opt
    rw [hbo] at e2
    have e2 : v2 = .non := e2
    subst e2
    walk_at "wp"
    refine ⟨_, ht, rfl, ?_⟩
    walk_at "wp"
    refine ⟨_, hgl, ?_⟩
    have hn := hga.length
    rw [List.length_map] at hn
    rw [hn, hg]
    exact q _ s1
abbrev s_look_at_plain : Stmt := top 37
theorem sc_look_at_plain : FnScope ["bakery"] ["bakery"] (defScope s_look_at_plain) := ⟨rfl, rfl, rfl, by decide +kernel, rfl, by decide +kernel, by decide +kernel⟩
theorem ok_look_at_plain {f : Addr} {fd : FuncData} (F : Fun K "look_at_plain" "look_at_plain" s_look_at_plain f fd) (D_is_plain : Def P w K mg base "is_plain" 7 ["bakery"] (spPlain K (.bl true))) : FnOk P w K mg base CX0 8 f fd ["bakery"] (spPlain K .non) := by
  refine F.ok sc_look_at_plain (fun vs H Q E h => ?_) (fun cdv A outer s H vs Q E hr h => ?_)
  · obtain ⟨x, b, rfl, _⟩ := h
    rfl
  · obtain ⟨x, b, rfl, hx, hb, hbo, hg, q⟩ := h
    refine ⟨_, (pss_one (ps_if (pt_not (pt_val (pe_callD D_is_plain hr (by rfl) (pa_cons (pv 0) pa_nil)))) (pss_one ps_never) pss_nil)), ?_⟩
    walk_at "wp"
    refine ⟨_, _, rfl, hx, hb, hbo, hg, fun H1 s1 => ?_⟩
    walk_at "wp"
    exact q _ s1
abbrev s_least_baked_on : Stmt := top 46
theorem sc_least_baked_on : FnScope ["row", "light", "prices", "many", "least", "cost", "first"] ["row", "light", "prices", "many"] (defScope s_least_baked_on) := ⟨rfl, rfl, rfl, by decide +kernel, rfl, by decide +kernel, by decide +kernel⟩
def spLbo (K : PySem.W.Frag) : Sp := fun vs H Q _ => ∃ (ra pa : Addr) (xs ys : List V) (row : Nat → Int) (wf : Nat → Option Int) (light : Int) (m : Nat), vs = [.ref ra, .int light, .ref pa, .int (m : Int)] ∧ SqL K H ra xs ∧ SqL K H pa ys ∧ (∀ i, i < m → xs[i]? = some (.int (row i))) ∧ (∀ i, i < m → ys[i]? = some (optV (wf i))) ∧ m ≤ 1000 ∧ Q (optV (lbo row wf m light none)) H
def LbI (ra pa : Addr) (light : Int) (row : Nat → Int) (wf : Nat → Option Int) (m : Nat) (H : Hp) (i : Nat) (σ : L2.St) (H' : Hp) : Prop := H' = H ∧ ∃ (c : Int) (l : Option Int) (y : Option V), σ = [some (.ref ra), some (.int light), some (.ref pa), some (.int (m : Int)), some (optV l), some (.int c), y] ∧ lbo row wf (m - i) c l = lbo row wf m light none
theorem ok_least_baked_on {f : Addr} {fd : FuncData} (F : Fun K "least_baked_on" "least_baked_on" s_least_baked_on f fd) (B : Bi mg) (Br : mg "reversed" = none) : FnOk P w K mg base CX0 1 f fd ["row", "light", "prices", "many"] (spLbo K) := by
  refine F.ok sc_least_baked_on (fun vs H Q E h => ?_) (fun cdv A outer s H vs Q E hr h => ?_)
  · obtain ⟨_, _, _, _, _, _, _, _, rfl, _⟩ := h
    rfl
  · obtain ⟨ra, pa, xs, ys, row, wf, light, m, rfl, hra, hpa, hx, hy, hm, q⟩ := h
    refine ⟨_, (pss_cons (ps_set (i := 4) sc_least_baked_on.nd rfl (Or.inl rfl) pe_non)
 (pss_cons (ps_set (i := 5) sc_least_baked_on.nd rfl (Or.inl rfl) (pv 1))
 (pss_cons (ps_for PassesOwn.never rfl (pi_revR (by rfl) Br (prg_1 (by rfl) B.range (pv 3))) (pg_name (i := 6) sc_least_baked_on.nd rfl (Or.inl rfl)) (pss_cons (ps_if (pt_cmpR op_isN (pe_ix ix_list (pv 2) (pv 6) (fun _ _ => rfl)) pe_non (nomark _)) (pss_one (ps_ret (pv 4))) pss_nil)
 (pss_cons (ps_aug (i := 5) sc_least_baked_on.nd rfl (Or.inl rfl) (pe_ix ix_list (pv 2) (pv 6) (fun _ _ => rfl)) ip_add)
 (pss_one (ps_if (PW.pt (pw_or (pt_cmpR op_isN (pv 4) pe_non (nomark _)) (pw_or1 (pt_cmpR op_lt (pe_op op_add (pe_ix ix_list (pv 0) (pv 6) (fun _ _ => rfl)) (pv 5)) (pv 4) (nomark _))))) (pss_one (ps_set (i := 4) sc_least_baked_on.nd rfl (Or.inl rfl) (pe_op op_add (pe_ix ix_list (pv 0) (pv 6) (fun _ _ => rfl)) (pv 5)))) pss_nil)))))
 (pss_one (ps_ret (pv 4)))))), ?_⟩
    walk_at "wp"
    refine ⟨by omega, by omega, by omega, by omega, ?_⟩
    rw [show ((m : Int) - 0).toNat = m by omega]
    refine LoopR.by walk_rangeC (LbI ra pa light row wf m H) ⟨rfl, light, none, none, rfl, rfl⟩ (fun _ _ _ _ _ => trivial) (fun i v σ H0 H2 hi hI hY => ?_) (fun σ H2 hI => ?_)
    · obtain ⟨rfl, rfl⟩ := hY
      obtain ⟨rfl, c, l, y, rfl, hl⟩ := hI
      have ej : (m : Int) - 1 + (i : Int) * -1 = ((m - (i + 1) : Nat) : Int) := by omega
      dsimp only
      rw [ej]
      have hlt : m - (i + 1) < m := by omega
      have h1 := hx _ hlt
      have h2 := hy _ hlt
      rw [show m - i = (m - (i + 1)) + 1 by omega] at hl
      have eI : ∀ σ, (∃ (c : Int) (l : Option Int) (y : Option V), σ = [some (.ref ra), some (.int light), some (.ref pa), some (.int (m : Int)), some (optV l), some (.int c), y] ∧ lbo row wf (m - (i + 1)) c l = lbo row wf m light none) → LbI ra pa light row wf m H2 (i + 1) σ H2 := fun σ h => ⟨rfl, h⟩
      generalize LbI ra pa light row wf m H2 (i + 1) = NX at eI ⊢
      generalize m - (i + 1) = j at h1 h2 hl hlt eI ⊢
      walk_at "wp"
      refine ⟨_, _, hpa, atI_nat h2, ?_⟩
      generalize lbo row wf m light none = L at q hl eI
      unfold lbo at hl
      cases hw : wf j with
      | none =>
        rw [hw] at hl
        simp only [optV]
        walk_at "wp"
        have hl : l = L := hl
        rw [← hl] at q
        exact q
      | some p =>
        rw [hw] at hl h2
        dsimp only at hl
        simp only [optV]
        walk_at "wp"
        refine ⟨_, _, hpa, atI_nat h2, ?_⟩
        simp only [optV]
        walk_at "wp"
        cases l with
        | none =>
          simp only [optV]
          walk_at "wp"
          refine ⟨_, _, hra, atI_nat h1, ?_⟩
          walk_at "wp"
          exact eI _ ⟨_, some _, _, rfl, hl⟩
        | some l0 =>
          dsimp only at hl
          simp only [optV]
          walk_at "wp"
          refine ⟨_, _, hra, atI_nat h1, ?_⟩
          walk_at "wp"
          refine ite2 (fun h => ?_) (fun h => ?_)
          · rw [if_pos (of_decide_eq_true h)] at hl
            refine ⟨_, _, hra, atI_nat h1, ?_⟩
            walk_at "wp"
            exact eI _ ⟨_, some _, _, rfl, hl⟩
          · rw [if_neg (fun z => h (decide_eq_true z))] at hl
            exact eI _ ⟨_, some _, _, rfl, hl⟩
    · obtain ⟨rfl, c, l, y, rfl, hl⟩ := hI
      rw [Nat.sub_self] at hl
      have hl : l = lbo row wf m light none := hl
      rw [← hl] at q
      walk_at "wp"
      exact q
abbrev s_least_of : Stmt := top 47
theorem sc_least_of : FnScope ["row", "lights", "table", "many", "ovens", "costs", "baked", "cost"] ["row", "lights", "table", "many", "ovens"] (defScope s_least_of) := ⟨rfl, rfl, rfl, by decide +kernel, rfl, by decide +kernel, by decide +kernel⟩
def spLeastOf (K : PySem.W.Frag) : Sp := fun vs H Q _ => ∃ (ra la ta oa : Addr) (xs zs ts : List V) (row lights : Nat → Int) (wf : Nat → Nat → Option Int) (m c : Nat), vs = [.ref ra, .ref la, .ref ta, .int ((m + 1 : Nat) : Int), .ref oa] ∧ SqL K H ra xs ∧ SqL K H la zs ∧ SqL K H ta ts ∧ SqL K H oa ((List.range c).map fun j : Nat => V.int (j : Int)) ∧ (∀ i, i < m + 1 → xs[i]? = some (.int (row i))) ∧ (∀ i, i < c → zs[i]? = some (.int (lights i))) ∧
  (∀ j, j < c → ∃ p ys, ts[j]? = some (.ref p) ∧ SqL K H p ys ∧ ∀ i, i < m + 1 → ys[i]? = some (optV (wf j i))) ∧ m < 1000 ∧ c ≤ 1000 ∧ (∃ u, ChC row lights wf c m u) ∧ ∀ v H', Same H H' → ChC row lights wf c m v → (∀ u, ChC row lights wf c m u → v ≤ u) → Q (.int v) H'
theorem ok_least_of {f : Addr} {fd : FuncData} (F : Fun K "least_of" "least_of" s_least_of f fd) (B : Bi mg) (D_least_baked_on : Def P w K mg base "least_baked_on" 1 ["row", "light", "prices", "many"] (spLbo K)) : FnOk P w K mg base CX0 2 f fd ["row", "lights", "table", "many", "ovens"] (spLeastOf K) := by
  refine F.ok sc_least_of (fun vs H Q E h => ?_) (fun cdv A outer s H vs Q E hr h => ?_)
  · obtain ⟨_, _, _, _, _, _, _, _, _, _, _, _, rfl, _⟩ := h
    rfl
  · obtain ⟨ra, la, ta, oa, xs, zs, ts, row, lights, wf, m, c, rfl, hra, hla, hta, hoa, hx, hz, ht, hm, hc, hex, q⟩ := h
    refine ⟨_, (pss_cons (ps_setLc (i := 5) (own := [("baked", 6)]) (g := (gName 6)) (te := (tCall _ _ _ (tCons _ (tCons (tOp (rIxL K) _ _) (tCons (tOp (rIxL K) _ _) (tCons _ tNil)))))) rfl sc_least_of.nd rfl rfl (sw_true rfl rfl rfl (by decide +kernel)) (pi_list (pv 4)) (blkOk_by (own := [("baked", 6)]) (N := ["row", "lights", "table", "many", "ovens", "costs", "baked", "cost"]) (sc := defScope s_least_of) (by decide +kernel)) (fun _ _ _ _ _ => (pg_name (i := 6) sc_least_of.nd rfl (Or.inl rfl))) (fun _ _ _ _ _ => pts_nil) (fun _ _ _ _ _ => (pe_callD D_least_baked_on hr (by rfl) (pa_cons (pv 0) (pa_cons (pe_ix ix_list (pv 1) (pv 6) (fun _ _ => rfl)) (pa_cons (pe_ix ix_list (pv 2) (pv 6) (fun _ _ => rfl)) (pa_cons (pv 3) pa_nil)))))))
 (pss_one (ps_ret (pe_callB (cr_min rfl) (by rfl) B.min (by decide +kernel) (pa_cons (pe_lc (own := [("cost", 7)]) (g := (gName 7)) rfl sc_least_of.nd (pi_list (pv 5)) (blkOk_by (own := [("cost", 7)]) (N := ["row", "lights", "table", "many", "ovens", "costs", "baked", "cost"]) (sc := defScope s_least_of) (by decide +kernel)) (fun _ _ _ _ _ => (pg_name (i := 7) sc_least_of.nd rfl (Or.inl rfl))) (fun _ _ _ _ _ => (pts_one (pt_cmpR op_notN (pv 7) pe_non (nomark _)))) (fun _ _ _ _ _ => (pv 7))) pa_nil))))), ?_⟩
    walk_at "wp"
    refine ⟨⟨_, hoa⟩, fun D hD => ?_⟩
    refine LcR.map (walk_list (xs := (List.range c).map fun j : Nat => V.int (j : Int))) ((lbos row lights wf m c).map optV) hD (by unfold lbos; rw [List.length_map, List.length_map, List.length_range, List.length_map, List.length_range]) (by rw [List.length_map, List.length_range]; omega) (fun H s => s.seq hoa) (fun _ _ _ _ y => yat_same y) (fun n v y H0 H4 hn s4 yy hy R hR => ?_) (fun H4 s4 hH => ?_)
    · obtain ⟨rfl, hv⟩ := yy
      rw [List.length_map, List.length_range] at hn
      rw [List.getElem?_map, List.getElem?_range hn] at hv
      cases hv
      unfold lbos at hy
      rw [List.getElem?_map, List.getElem?_map, List.getElem?_range hn] at hy
      cases hy
      obtain ⟨p, ys, e1, e2, e3⟩ := ht n hn
      walk_at "wp"
      refine ⟨_, _, s4.seq hla, atI_nat (hz n hn), _, _, s4.seq hta, atI_nat e1, ?_⟩
      exact ⟨_, _, _, _, row, wf n, lights n, m + 1, rfl, s4.seq hra, s4.seq e2, hx, e3, by omega, hR _ (Same.refl _)⟩
    · walk_at "wp"
      refine ⟨⟨_, SqL.of hH⟩, fun D2 hD2 => ?_⟩
      refine LcR.opts (lbos row lights wf m c) hD2 (SqL.of hH) (by unfold lbos; rw [List.length_map, List.length_range]; omega) (fun o H5 _ _ N M h1 h2 => ?_) (fun H5 s5 hH5 => ?_)
      · cases o with
        | none =>
          simp only [optV]
          walk_at "wp"
          exact h1 rfl
        | some z =>
          simp only [optV]
          walk_at "wp"
          exact h2 z rfl
      · obtain ⟨u, hu⟩ := hex
        obtain ⟨v0, hv0, _⟩ := lbos_least hu
        refine ⟨_, SqL.of hH5, List.length_pos_of_mem hv0, fun v hv hmin => q v _ (s4.trans s5) (lbos_mem hv) fun u hu => ?_⟩
        obtain ⟨v1, hv1, hle⟩ := lbos_least hu
        have := hmin _ hv1
        omega
abbrev s_is_unwanted : Stmt := top 48
theorem sc_is_unwanted : FnScope ["good", "day", "days", "life", "want", "loaf", "keep", "fine"] ["good", "day"] (defScope s_is_unwanted) := ⟨rfl, rfl, rfl, by decide +kernel, rfl, by decide +kernel, by decide +kernel⟩
def spUnw (K : PySem.W.Frag) : Sp := fun vs H Q _ => ∃ x g d, ∃ k : Nat, vs = [x, .int (k : Int)] ∧ Th K H x (goodD g) ∧ g.days[k]? = some d ∧ Q (.bl (decide (d.want = 0))) H
theorem ok_is_unwanted {f : Addr} {fd : FuncData} (F : Fun K "is_unwanted" "is_unwanted" s_is_unwanted f fd) : FnOk P w K mg base CX0 1 f fd ["good", "day"] (spUnw K) := by
  refine F.ok sc_is_unwanted (fun vs H Q E h => ?_) (fun cdv A outer s H vs Q E hr h => ?_)
  · obtain ⟨x, g, d, k, rfl, _⟩ := h
    rfl
  · obtain ⟨x, g, d, k, rfl, hx, hd, q⟩ := h
    refine ⟨_, (pss_cons (ps_asg (pv 0) (pg_tup rfl (pgs_cons (pg_name (i := 2) sc_is_unwanted.nd rfl (Or.inl rfl)) (pgs_cons (pg_name (i := 3) sc_is_unwanted.nd rfl (Or.inl rfl)) pgs_nil))))
 (pss_cons (ps_asg (pe_ix ix_list (pv 2) (pv 1) (fun _ _ => rfl)) (pg_tup rfl (pgs_cons (pg_name (i := 4) sc_is_unwanted.nd rfl (Or.inl rfl)) (pgs_cons (pg_name (i := 5) sc_is_unwanted.nd rfl (Or.inl rfl)) (pgs_cons (pg_name (i := 6) sc_is_unwanted.nd rfl (Or.inl rfl)) (pgs_cons (pg_name (i := 7) sc_is_unwanted.nd rfl (Or.inl rfl)) pgs_nil))))))
 (pss_one (ps_ret (pe_cmpR op_eq (pv 4) pe_int (nomark _)))))), ?_⟩
    obtain ⟨t, a, xs, rfl, ht, hs, ha⟩ := hx.good
    obtain ⟨v, hv, hvd⟩ := ha.get' (i := k) (d := dayD d) (by rw [List.getElem?_map, hd]; rfl)
    obtain ⟨t2, rfl, ht2⟩ := hvd.day
    walk_at "wp"
    refine ⟨_, ht, rfl, ?_⟩
    walk_at "wp"
    refine ⟨_, _, hs, atI_nat hv, ?_⟩
    walk_at "wp"
    refine ⟨_, ht2, rfl, ?_⟩
    walk_at "wp"
    exact q
abbrev s_wanted_table : Stmt := top 44
theorem sc_wanted_table : FnScope ["good", "days", "life", "baked", "given"] ["good"] (defScope s_wanted_table) := ⟨rfl, rfl, rfl, by decide +kernel, rfl, by decide +kernel, by decide +kernel⟩
def TabOf (g : Good) (n : Nat) (H' : Hp) (acc : List V) : Prop := acc.length = n ∧ ∀ j, j < n → ∃ p, acc[j]? = some (.ref p) ∧ H' p = some (.lst ((List.range n).map fun k => optV (wantP g j k)))
def spTable (K : PySem.W.Frag) : Sp := fun vs H Q _ => ∃ x g, vs = [x] ∧ Th K H x (goodD g) ∧ okDays g ∧ g.days.length ≤ 1000 ∧ ∀ (H' : Hp) (p : Addr) (acc : List V), Same H H' → H p = none → H' p = some (.lst acc) → TabOf g g.days.length H' acc → Q (.ref p) H'
def TabI (g : Good) (n : Nat) (D : Addr) (H1 : Hp) (i : Nat) (H' : Hp) : Prop := Same H1 H' ∧ ∃ acc : List V, H' D = some (.lst acc) ∧ acc.length = i ∧ ∀ j, j < i → ∃ p, acc[j]? = some (.ref p) ∧ p ≠ D ∧ H' p = some (.lst ((List.range n).map fun k => optV (wantP g j k)))
theorem ok_wanted_table {f : Addr} {fd : FuncData} (F : Fun K "wanted_table" "wanted_table" s_wanted_table f fd) (B : Bi mg) (D_wanted_price : Def P w K mg base "wanted_price" 3 ["good", "baked", "given"] (spWanted K)) : FnOk P w K mg base CX0 4 f fd ["good"] (spTable K) := by
  refine F.ok sc_wanted_table (fun vs H Q E h => ?_) (fun cdv A outer s H vs Q E hr h => ?_)
  · obtain ⟨x, g, rfl, _⟩ := h
    rfl
  · obtain ⟨x, g, rfl, hx, hok, hn1, q⟩ := h
    refine ⟨_, (pss_cons (ps_asg (pv 0) (pg_tup rfl (pgs_cons (pg_name (i := 1) sc_wanted_table.nd rfl (Or.inr rfl)) (pgs_cons (pg_name (i := 2) sc_wanted_table.nd rfl (Or.inl rfl)) pgs_nil))))
 (pss_one (ps_ret (pe_lc (own := [("baked", 3)]) (g := (gName 3)) (te := (tLc (iRng1 (tCons (tCB (rLnL K) _) tNil)) (gName 4) tYes _ [4])) rfl sc_wanted_table.nd (pi_range1 (by rfl) B.range (pa_cons (pe_callB call_lnL (by rfl) B.len (by decide +kernel) (pa_cons (pv 1) pa_nil)) pa_nil)) (blkOk_by (own := [("baked", 3)]) (N := ["good", "days", "life", "baked", "given"]) (sc := defScope s_wanted_table) (by decide +kernel)) (fun _ _ _ _ _ => (pg_name (i := 3) sc_wanted_table.nd rfl (Or.inr rfl))) (fun _ _ _ _ _ => pts_nil) (fun _ _ _ _ _ => (pe_lc (own := [("given", 4)]) (g := (gName 4)) rfl sc_wanted_table.nd (pi_range1 (by rfl) B.range (pa_cons (pe_callB call_lnL (by rfl) B.len (by decide +kernel) (pa_cons (pv 1) pa_nil)) pa_nil)) (blkOk_by (own := [("given", 4)]) (N := ["good", "days", "life", "baked", "given"]) (sc := ({ kind := .function, names := [(".0", .local), ("baked", .cell), ("range", .globalImplicit), ("len", .globalImplicit), ("days", .cell), ("good", .cell)], isGenerator := false, isCoroutine := false } : Scope)) (by decide +kernel)) (fun _ _ _ _ _ => (pg_name (i := 4) sc_wanted_table.nd rfl (Or.inl rfl))) (fun _ _ _ _ _ => pts_nil) (fun _ _ _ _ _ => (pe_callD D_wanted_price hr (by rfl) (pa_cons (pv 0) (pa_cons (pv 3) (pa_cons (pv 4) pa_nil))))))))))), ?_⟩
    obtain ⟨t, a, xs, rfl, ht, hs, ha⟩ := hx.good
    have hxl := ha.length
    rw [List.length_map] at hxl
    walk_at "wp"
    refine ⟨_, ht, rfl, ?_⟩
    walk_at "wp"
    refine ⟨_, hs, ?_⟩
    walk_at "wp"
    refine ⟨by omega, by omega, fun D hD => ?_⟩
    rw [show ((xs.length : Nat) : Int).toNat = g.days.length by omega]
    refine LcR.by walk_range (TabI g g.days.length D H) ⟨same_upd hD, [], upd_same, rfl, fun j h => by omega⟩ (fun _ _ _ _ => trivial) (fun n v H0 H4 hn hI yy => ?_) (fun H4 hI => ?_)
    · obtain ⟨rfl, rfl⟩ := yy
      obtain ⟨s4, acc, hacc, hal, hrow⟩ := hI
      walk_at "wp"
      refine ⟨_, s4.seq hs, ?_⟩
      walk_at "wp"
      refine ⟨by omega, by omega, fun D2 hD2 => ?_⟩
      rw [show ((xs.length : Nat) : Int).toNat = g.days.length by omega]
      have ne : D2 ≠ D := fun e => by rw [e, hacc] at hD2; cases hD2
      refine LcR.map walk_range ((List.range g.days.length).map fun k => optV (wantP g n k)) hD2 (by rw [List.length_map, List.length_range]) (by omega) (fun _ _ => trivial) (fun _ _ _ _ y => yfn_same y) (fun k v y H0 H5 hk s5 yy hy R hR => ?_) (fun H5 s5 hH5 => ?_)
      · obtain ⟨rfl, rfl⟩ := yy
        rw [List.getElem?_map, List.getElem?_range hk] at hy
        cases hy
        walk_at "wp"
        exact ⟨_, g, n, k, rfl, hx.same (s4.trans s5), hok, by omega, by omega, by omega, hR⟩
      · refine ⟨acc, s5 _ _ hacc, sz100l (by omega), same_mut (s4.trans s5) hD, _, upd_same, by rw [List.length_append, hal]; rfl, fun j hj => ?_⟩
        by_cases hjn : j < n
        · obtain ⟨p, e1, e2, e3⟩ := hrow j hjn
          exact ⟨p, by rw [List.getElem?_append_left (by omega)]; exact e1, e2, by rw [upd_ne e2]; exact s5 _ _ e3⟩
        · have ej : j = n := by omega
          subst ej
          exact ⟨D2, by rw [List.getElem?_append_right (by omega), hal, Nat.sub_self]; rfl, ne, by rw [upd_ne ne]; exact hH5⟩
    · obtain ⟨s4, acc, hacc, hal, hrow⟩ := hI
      exact q _ D acc s4 hD hacc ⟨hal, fun j hj => by obtain ⟨p, e1, _, e3⟩ := hrow j hj; exact ⟨p, e1, e3⟩⟩
abbrev s_least_row : Stmt := top 49
theorem sc_least_row : FnScope ["bakery", "lights", "bound", "goods", "good", "table", "row", "many", "least"] ["bakery"] (defScope s_least_row) := ⟨rfl, rfl, rfl, by decide +kernel, rfl, by decide +kernel, by decide +kernel⟩
def spRow (K : PySem.W.Frag) : Sp := fun vs H Q _ => ∃ x ls g, vs = [x] ∧ Th K H x (bakD ⟨ls, none, [g]⟩) ∧ bakB (bakD ⟨ls, none, [g]⟩) = true ∧ ∀ (H' : Hp) (p : Addr) (rs : List Int), Same H H' → H p = none → H' p = some (.lst (rs.map V.int)) → rs.length = ls.length + 1 → IsRow g (rowF ls) (rowF rs) ls.length → Q (.ref p) H'
def RowI (v0 v1 v2 v3 v4 v5 : V) (p : Addr) (g : Good) (ls : List Int) (H : Hp) (i : Nat) (σ : L2.St) (H' : Hp) : Prop := (∃ y7 y8, σ = [some v0, some v1, some v2, some v3, some v4, some v5, some (.ref p), y7, y8]) ∧ Same H H' ∧ ∃ rs : List Int, H' p = some (.lst (rs.map V.int)) ∧ rs.length = i + 1 ∧ IsRow g (rowF ls) (rowF rs) i
theorem ok_least_row {f : Addr} {fd : FuncData} (F : Fun K "least_row" "least_row" s_least_row f fd) (B : Bi mg) (D_look_at_plain : Def P w K mg base "look_at_plain" 8 ["bakery"] (spPlain K .non)) (D_wanted_table : Def P w K mg base "wanted_table" 4 ["good"] (spTable K))
    (D_least_of : Def P w K mg base "least_of" 2 ["row", "lights", "table", "many", "ovens"] (spLeastOf K)) (D_is_unwanted : Def P w K mg base "is_unwanted" 1 ["good", "day"] (spUnw K)) : FnOk P w K mg base CX0 9 f fd ["bakery"] (spRow K) := by
  refine F.ok sc_least_row (fun vs H Q E h => ?_) (fun cdv A outer s H vs Q E hr h => ?_)
  · obtain ⟨x, ls, g, rfl, _⟩ := h
    rfl
  · obtain ⟨x, ls, g, rfl, hx, hb, q⟩ := h
    refine ⟨_, (pss_cons (ps_expr (pe_callD D_look_at_plain hr (by rfl) (pa_cons (pv 0) pa_nil)))
 (pss_cons (ps_asg (pv 0) (pg_tup rfl (pgs_cons (pg_name (i := 1) sc_least_row.nd rfl (Or.inl rfl)) (pgs_cons (pg_name (i := 2) sc_least_row.nd rfl (Or.inl rfl)) (pgs_cons (pg_name (i := 3) sc_least_row.nd rfl (Or.inl rfl)) pgs_nil)))))
 (pss_cons (ps_set (i := 4) sc_least_row.nd rfl (Or.inl rfl) (pe_ix ix_list (pv 3) pe_int (fun _ _ => rfl)))
 (pss_cons (ps_set (i := 5) sc_least_row.nd rfl (Or.inl rfl) (pe_callD D_wanted_table hr (by rfl) (pa_cons (pv 4) pa_nil)))
 (pss_cons (ps_set (i := 6) sc_least_row.nd rfl (Or.inl rfl) (pe_lst (pa_cons pe_int pa_nil)))
 (pss_cons (ps_for PassesOwn.never rfl (pi_range2 (by rfl) B.range (pa_cons pe_int (pa_cons (pe_op op_add (pe_callB call_lnL (by rfl) B.len (by decide +kernel) (pa_cons (pv 1) pa_nil)) pe_int) pa_nil))) (pg_name (i := 7) sc_least_row.nd rfl (Or.inl rfl)) (pss_cons (ps_set (i := 8) sc_least_row.nd rfl (Or.inl rfl) (pe_callD D_least_of hr (by rfl) (pa_cons (pv 6) (pa_cons (pv 1) (pa_cons (pv 5) (pa_cons (pv 7) (pa_cons (pe_listRg rfl (by rfl) B.list (prg_1 (by rfl) B.range (pv 7))) pa_nil)))))))
 (pss_cons (ps_if (pt_val (pe_callD D_is_unwanted hr (by rfl) (pa_cons (pv 4) (pa_cons (pe_op op_sub (pv 7) pe_int) pa_nil)))) (pss_one (ps_set (i := 8) sc_least_row.nd rfl (Or.inl rfl) (pe_callB (call_mn rfl) (by rfl) B.min (by decide +kernel) (pa_cons (pv 8) (pa_cons (pe_ix ix_list (pv 6) (pe_op op_sub (pv 7) pe_int) (fun _ _ => rfl)) pa_nil))))) pss_nil)
 (pss_one (ps_expr (pe_bm PySem.F.plainAttrs_list PySem.F.slot_list_append PySem.F.type_list_append mt_append (pv 6) (pa_cons (pv 8) pa_nil)))))))
 (pss_one (ps_ret (pv 6))))))))), ?_⟩
    obtain ⟨⟨c1, c2⟩, c3, _, _, c7⟩ := bak_parts hb
    obtain ⟨c8, c9, hok⟩ := c7 g (List.mem_singleton.mpr rfl)
    dsimp only at c1 c2 c3 c8
    walk_at "wp"
    refine ⟨_, _, rfl, hx, hb, rfl, rfl, fun H1 s1 => ?_⟩
    obtain ⟨a, l, v2, ga, xl, xg, rfl, ht, hl, hla, h2, hgl, hga⟩ := Th.bak (hx.same s1)
    obtain ⟨vg, hv, hvg⟩ := hga.get' (i := 0) (d := goodD g) rfl
    have hln := hla.length
    rw [List.length_map] at hln
    dsimp only at hln
    walk_at "wp"
    refine ⟨_, ht, rfl, ?_⟩
    walk_at "wp"
    refine ⟨_, _, hgl, atI_nat hv, ?_⟩
    walk_at "wp"
    refine ⟨_, g, rfl, hvg, hok, by omega, fun H4 D acc s4 hD0 hacc hrow => ?_⟩
    obtain ⟨hal, hrow⟩ := hrow
    walk_at "wp"
    have hx4 := s1.trans s4
    refine ⟨sz100 (by decide), fun p hp => ⟨_, (same_upd hp).seq (s4.seq hl), ?_⟩⟩
    walk_at "wp"
    refine ⟨⟨by omega, by omega, by omega, by omega⟩, ?_⟩
    have hHp : H p = none := by
      cases e : H p with
      | none => rfl
      | some o => rw [hx4 _ _ e] at hp; cases hp
    rw [show ((xl.length : Int) + 1 - 1).toNat = ls.length by omega]
    refine LoopR.by walk_range (RowI (.ref a) (.ref l) v2 (.ref ga) vg (.ref D) p g ls H4) ⟨⟨_, _, rfl⟩, same_upd hp, [0], upd_same, rfl, IsRow.init _ _⟩ (fun _ _ _ _ _ => trivial) (fun i v σ H0 H5 hi hI yy => ?_) (fun σ H5 hI => ?_)
    · obtain ⟨rfl, rfl⟩ := yy
      obtain ⟨⟨y7, y8, rfl⟩, s5, rs, hrs, hrl, hR⟩ := hI
      have hxl : xl = ls.map V.int := hla.intsV
      have ei : (1 : Int) + (i : Int) = ((i + 1 : Nat) : Int) := by omega
      have hdi : i < g.days.length := by omega
      have hd : g.days[i]? = some g.days[i] := List.getElem?_eq_getElem hdi
      generalize g.days[i] = d at hd
      have s15 := s4.trans s5
      dsimp only
      rw [ei]
      walk_at "wp"
      refine ⟨RgOk.of_le (by omega) (by omega) (by omega) (by omega), fun oa hoa0 => ?_⟩
      have so := same_upd (o := .lst (rgV 0 ((i + 1 : Nat) : Int))) hoa0
      have hoa : upd H5 oa (.lst (rgV 0 ((i + 1 : Nat) : Int))) oa = some (.lst ((List.range (i + 1)).map fun j : Nat => V.int (j : Int))) := by rw [upd_same, rgV_zero]
      generalize upd H5 oa (.lst (rgV 0 ((i + 1 : Nat) : Int))) = H5' at so hoa ⊢
      have s5 := s5.trans so
      have s15 := s4.trans s5
      have hrs := so _ _ hrs
      refine ⟨p, l, D, oa, rs.map V.int, xl, acc, rowF rs, rowF ls, wantP g, i, i + 1, rfl, SqL.of hrs, s15.seq hl, SqL.of (s5 _ _ hacc), SqL.of hoa, fun j hj => rowF_get (by omega), fun j hj => by rw [hxl]; exact rowF_get (by omega), fun j hj => ?_, by omega, by omega, ⟨_, own_chC (by omega) hd (life_ok c9)⟩, fun v H6 s6 hv hmin => ?_⟩
      · obtain ⟨p2, e1, e3⟩ := hrow j (by omega)
        refine ⟨p2, _, e1, SqL.of (s5 _ _ e3), fun k hk => ?_⟩
        rw [List.getElem?_map, List.getElem?_range (by omega)]
        rfl
      · have hrs6 := s6 _ _ hrs
        have fin : ∀ (u : Int) (y7 y8 : Option V), Choice g (rowF ls) (rowF rs) i u → (∀ z, Choice g (rowF ls) (rowF rs) i z → u ≤ z) → RowI (.ref a) (.ref l) v2 (.ref ga) vg (.ref D) p g ls H4 (i + 1) [some (.ref a), some (.ref l), some v2, some (.ref ga), some vg, some (.ref D), some (.ref p), y7, y8] (upd H6 p (.lst (rs.map V.int ++ [.int u]))) := fun u y7 y8 h1 h2 =>
          ⟨⟨_, _, rfl⟩, same_mut (s5.trans s6) hp, rs ++ [u], by rw [upd_same, List.map_append]; rfl, by rw [List.length_append, hrl]; rfl, hR.snoc hrl h1 h2⟩
        have hlen : (rs.map V.int).length < sizeLine := sz100l (by rw [List.length_map]; omega)
        walk_at "wp"
        refine ⟨_, g, d, i, by rw [show ((i + 1 : Nat) : Int) - 1 = (i : Int) by omega], hvg.same (s15.trans s6), hd, ?_⟩
        walk_at "wp"
        refine ite2 (fun h => ?_) (fun h => ?_)
        · have hw : d.want = 0 := of_decide_eq_true h
          refine ⟨_, _, SqL.of hrs6, by rw [show ((i + 1 : Nat) : Int) - 1 = (i : Int) by omega]; exact atI_nat (rowF_get (by omega)), ?_⟩
          walk_at "wp"
          refine ⟨tyL (SqL.of hrs6), _, hrs6, hlen, fin _ _ _ ?_ ?_⟩
          · split
            · exact .inr ⟨⟨d, hd, hw⟩, rfl⟩
            · exact chC_choice hv
          · intro z hz
            have k : z = rowF rs i ∨ v ≤ z := by
              rcases choice_chC hz with hz | hz
              · exact .inr (hmin z hz)
              · exact .inl hz
            split <;> omega
        · have hw : ¬ d.want = 0 := fun z => h (decide_eq_true z)
          exact ⟨tyL (SqL.of hrs6), _, hrs6, hlen, fin v _ _ (chC_choice hv) fun z hz => hmin z (choice_not hd hw hz)⟩
    · obtain ⟨⟨y7, y8, rfl⟩, s5, rs, hrs, hrl, hR⟩ := hI
      walk_at "wp"
      exact q _ p rs (hx4.trans s5) hHp hrs hrl hR
end
end Bk

namespace Bk
open PySem PySem.Spec PyProof.Rows L2
open C8 (Met pe_mt pe_mt0)
local macro_rules | `(tactic| walk_at "wp") => `(tactic| try simp only [iZipA_eq, rZipA_r, iEnumZip_eq, rEnumZip_r, tFld_eq, tMeth_eq, rTIx_r, tTru, tScT2, rSetL_r, rSetOf2_r, rSorDT_r, rSetD, tDGet2, tDGet, tDNewT, cxW, rExtend_r, rSortU_r, rSetOf_r, rSortedSet_r, rNinr_r, rNeN_r, rCatL_r, rSlT_r, rListOf_r, rIsB_b, rNotB_b, tFmtO, tJs, tOst, tCallS, WE, tRaise2, rOne_i, rSorD_r, tDNewK, Int.zero_add, tNever, tFor_eq, tLc_eq, iList, iTup, iRng1_eq, rRng1_i, iRng2_eq, rRng2_i, iEnum_eq, rEnum_r, iZip_eq, rZip_r, tSl, tPart, tNoPart, rSlL_r, rCat_r, rIn_r, rNin_r, rRepr_r, iRevR, rMin_r, rShr_i, rOdd_i, rSetL_r, gSub, rRg1_i, rRg2_i, rInr_r, tAug, ipI_ii, tLstRg, tRg1, tRg2, gTup_r, gUnl_r, rInt1_b, rInt1_i, rRep_r, tStep_r, scal, tSeq, tNext, tAsg, tRet, tRetN, tIfS, tDrop, tCB, tCons, tNil, tVar, tOp, tUn, tC, rU_i, rI_ii, rI0_ii, rEq, rNe, tTest, tB, tAnd, tOr, tNot, tAndV, tOrV, tNotV, tIf, tChain, tLst, tTup, tBM, tBM0, rAppend_r, rIxL_r, rIxT_r, rMx_ii, rMn_ii, rLnL_r, rLnT_r, rIsD_int, rIsD_bool, rIsD_list, rIsD_tuple, tCall, gName, gNil_n, gCons_c, cxK, L2.start, List.map, List.replicate, List.length_cons, List.length_nil, List.cons_append, List.nil_append, List.append_nil, List.getElem?_cons_zero, List.getElem?_cons_succ, Option.some.injEq, exists_eq_left', exists_eq_left, V.int.injEq, V.bl.injEq, V.str.injEq, V.ref.injEq, List.cons.injEq, and_true, true_and, and_self, List.set, wipe, rAll_r, rSum_r, reduceCtorEq, decide_true, decide_false, reduceIte, ite_true, ite_false, if_true, if_false, Bool.false_eq_true, Bool.not_true, Bool.not_false])
local macro_rules | `(tactic| walk_at "shaped") => `(tactic| (simp only [SeqAt.shaped, PyData.canLay0, PyData.canLayAll0, PyData.depth, PyData.depthAll]; rfl))
local macro_rules | `(tactic| walk_at "lay") => `(tactic| (simp only [PyData.canLay0, PyData.canLayAll0]; rfl))
local macro_rules | `(tactic| walk_at "wg") => `(tactic| try simp only [gName, gTup_r, gCons_c, gNil_n, cxK, List.set, List.cons.injEq, and_true, true_and, exists_eq_left', exists_eq_left, List.length_cons, List.length_nil])
section
variable {P : Program} {w : World} {K : PySem.W.Frag} {mg : Str → Option Value} {base : Heap}
abbrev s_is_part : Stmt := top 71
theorem sc_is_part : FnScope ["thing"] ["thing"] (defScope s_is_part) := ⟨rfl, rfl, rfl, by decide +kernel, rfl, by decide +kernel, by decide +kernel⟩
abbrev partsL : List Str := ["want", "loaf", "keep", "fine"]
def PartsT (K : PySem.W.Frag) (A : Addr) : Prop := ∀ H, SqT K H A (partsL.map V.str)
def partB (s : Str) : Bool := decide (s = "light") || decide (s ∈ partsL)
def spPart (K : PySem.W.Frag) : Sp := fun vs H Q _ => ∃ s, vs = [.str s] ∧ partB s = true ∧ ∀ H', Same H H' → Q (.bl true) H'
abbrev s_is_worth : Stmt := top 72
theorem sc_is_worth : FnScope ["part", "thing"] ["part", "thing"] (defScope s_is_worth) := ⟨rfl, rfl, rfl, by decide +kernel, rfl, by decide +kernel, by decide +kernel⟩
def worthB (s : Str) (o : Option Int) : Bool := numD (optD o) || (decide (s = "fine") && o.isNone)
def spWorth (K : PySem.W.Frag) : Sp := fun vs H Q _ => ∃ s o, vs = [.str s, optV o] ∧ worthB s o = true ∧ ∀ H', Same H H' → Q (.bl true) H'
abbrev s_with_part : Stmt := top 73
theorem sc_with_part : FnScope ["day", "part", "number", "name", "worth"] ["day", "part", "number"] (defScope s_with_part) := ⟨rfl, rfl, rfl, by decide +kernel, rfl, by decide +kernel, by decide +kernel⟩
def withD (s : Str) (o : Option Int) (d : Day) : Day := if s = "want" then { d with want := o.getD 0 } else if s = "loaf" then { d with loaf := o.getD 0 } else if s = "keep" then { d with keep := o.getD 0 } else if s = "fine" then { d with fine := o } else d
def spWith (K : PySem.W.Frag) : Sp := fun vs H Q _ => ∃ t s o d, vs = [.ref t, .str s, optV o] ∧ H t = some (.tup [.int d.want, .int d.loaf, .int d.keep, optV d.fine]) ∧ worthB s o = true ∧ ∀ H' r, Same H H' → H r = none → H' r = some (.tup [.int (withD s o d).want, .int (withD s o d).loaf, .int (withD s o d).keep, optV (withD s o d).fine]) → Q (.ref r) H'
def withL (s : Str) (o : Option Int) (d : Day) : List V := [if ("want" : Str) = s then optV o else .int d.want, if ("loaf" : Str) = s then optV o else .int d.loaf, if ("keep" : Str) = s then optV o else .int d.keep, if ("fine" : Str) = s then optV o else optV d.fine]
theorem withL_D {s : Str} {o : Option Int} {d : Day} (h : worthB s o = true) : withL s o d = [.int (withD s o d).want, .int (withD s o d).loaf, .int (withD s o d).keep, optV (withD s o d).fine] := by
  have ho : s ≠ "fine" → ∃ y, o = some y := fun hn => by
    unfold worthB at h
    rw [decide_eq_false hn, Bool.false_and, Bool.or_false] at h
    cases o with
    | none => cases h
    | some y => exact ⟨y, rfl⟩
  have n12 : ¬ (("loaf" : Str) = "want") := by decide +kernel
  have n13 : ¬ (("keep" : Str) = "want") := by decide +kernel
  have n14 : ¬ (("fine" : Str) = "want") := by decide +kernel
  have n23 : ¬ (("keep" : Str) = "loaf") := by decide +kernel
  have n24 : ¬ (("fine" : Str) = "loaf") := by decide +kernel
  have n34 : ¬ (("fine" : Str) = "keep") := by decide +kernel
  unfold withL withD
  by_cases h1 : s = "want"
  · subst h1
    obtain ⟨y, rfl⟩ := ho (fun e => n14 e.symm)
    rw [if_pos rfl, if_neg n12, if_neg n13, if_neg n14, if_pos rfl]
    rfl
  · by_cases h2 : s = "loaf"
    · subst h2
      obtain ⟨y, rfl⟩ := ho (fun e => n24 e.symm)
      rw [if_neg (fun e => n12 e.symm), if_pos rfl, if_neg n23, if_neg n24, if_neg n12, if_pos rfl]
      rfl
    · by_cases h3 : s = "keep"
      · subst h3
        obtain ⟨y, rfl⟩ := ho (fun e => n34 e.symm)
        rw [if_neg (fun e => n13 e.symm), if_neg (fun e => n23 e.symm), if_pos rfl, if_neg n34, if_neg n13, if_neg n23, if_pos rfl]
        rfl
      · by_cases h4 : s = "fine"
        · subst h4
          rw [if_neg (fun e => n14 e.symm), if_neg (fun e => n24 e.symm), if_neg (fun e => n34 e.symm), if_pos rfl, if_neg n14, if_neg n24, if_neg n34, if_pos rfl]
        · rw [if_neg (fun e => h1 e.symm), if_neg (fun e => h2 e.symm), if_neg (fun e => h3 e.symm), if_neg (fun e => h4 e.symm), if_neg h1, if_neg h2, if_neg h3, if_neg h4]
theorem ok_with_part {f : Addr} {fd : FuncData} {A : Addr} (F : Fun K "with_part" "with_part" s_with_part f fd) (B : Bi mg) (Bz : mg "zip" = none) (M_PARTS : mg "PARTS" = some (.ref A)) (PT : PartsT K A) : FnOk P w K mg base CX0 1 f fd ["day", "part", "number"] (spWith K) := by
  refine F.ok sc_with_part (fun vs H Q E h => ?_) (fun cdv A outer s H vs Q E hr h => ?_)
  · obtain ⟨_, _, _, _, rfl, _⟩ := h
    rfl
  · obtain ⟨t, z, o, d, rfl, ht, hz, q⟩ := h
    refine ⟨_, (pss_one (ps_ret (pe_callTy call_tuple_of (by rfl) B.tuple (by decide +kernel) (pa_cons (pe_lc (own := [("name", 3), ("worth", 4)]) (g := (gTup K 2 (gCons (gName 3) (gCons (gName 4) gNil)))) rfl sc_with_part.nd (RZ.pi_zipA (by rfl) Bz (pa_cons (pe_globR (by rfl) M_PARTS) (pa_cons (pv 0) pa_nil))) (blkOk_by (own := [("name", 3), ("worth", 4)]) (N := ["day", "part", "number", "name", "worth"]) (sc := defScope s_with_part) (by decide +kernel)) (fun _ _ _ _ _ => (pg_tup rfl (pgs_cons (pg_name (i := 3) sc_with_part.nd rfl (Or.inl rfl)) (pgs_cons (pg_name (i := 4) sc_with_part.nd rfl (Or.inl rfl)) pgs_nil)))) (fun _ _ _ _ _ => pts_nil) (fun _ _ _ _ _ => (pe_ifExp (pt_cmpR op_eq (pv 3) (pv 1) (nomark _)) (pv 2) (pv 4)))) pa_nil)))), ?_⟩
    walk_at "wp"
    have ht' : SqT K H t [.int d.want, .int d.loaf, .int d.keep, optV d.fine] := SqT.of ht
    refine ⟨partsL.map V.str, [.int d.want, .int d.loaf, .int d.keep, optV d.fine], .inr ⟨PT _, ht', fun D hD => ?_⟩⟩
    refine LcR.map (walk_zipT (n := 4) (xs := partsL.map V.str) (ys := [.int d.want, .int d.loaf, .int d.keep, optV d.fine]) rfl) (withL z o d) hD rfl (by decide) (fun H1 s => ⟨PT _, Same.tup s ht'⟩) (fun _ _ _ _ y => ypair_same y) (fun i x y H0 H1 hi s1 yy hy R hR => ?_) (fun H1 s1 hH => ?_)
    · obtain ⟨U, z1, z2, rfl, hU, rfl, e1, e2⟩ := yy
      have SU := same_upd (o := .tup [z1, z2]) hU
      walk_at "wp"
      refine ⟨_, SqT.of upd_same, rfl, ?_⟩
      generalize upd H0 U (.tup [z1, z2]) = H2 at SU hR ⊢
      have fin : ∀ w : V, y = w → R w H2 := fun w e => by rw [← e]; exact hR _ (Same.refl _)
      have e1 : (partsL.map V.str)[i]? = some z1 := e1
      have e2 : ([.int d.want, .int d.loaf, .int d.keep, optV d.fine] : List V)[i]? = some z2 := e2
      rcases (by omega : i = 0 ∨ i = 1 ∨ i = 2 ∨ i = 3) with rfl | rfl | rfl | rfl
      all_goals
        cases e1
        cases e2
        cases hy
        walk_at "wp"
        split
        · rename_i hc
          exact fin _ (if_pos (of_decide_eq_true hc))
        · rename_i hc
          exact fin _ (if_neg fun e => hc (decide_eq_true e))
    · have hD1 : SqL K H1 D (withL z o d) := SqL.of hH
      refine ⟨D, _, rfl, .inl ⟨hD1, fun l hl => ?_⟩⟩
      have S2 := same_upd (o := .tup (withL z o d)) hl
      refine q _ l (s1.trans S2) (by
        cases e : H l with
        | none => rfl
        | some o' => rw [s1 _ _ e] at hl; cases hl) ?_
      rw [upd_same, withL_D hz]
abbrev s_others_now : Stmt := top 74
theorem sc_others_now : FnScope ["before", "after", "at", "old", "new"] ["before", "after"] (defScope s_others_now) := ⟨rfl, rfl, rfl, by decide +kernel, rfl, by decide +kernel, by decide +kernel⟩
def othersN (xs ys : List Int) (n : Nat) : List Int := ((List.range n).filter fun i => decide (xs[i]? ≠ ys[i]?)).map fun (i : Nat) => (i : Int)
def othersL (xs ys : List Int) : List Int := othersN xs ys (min xs.length ys.length)
theorem othersN_succ (xs ys : List Int) (i : Nat) : othersN xs ys (i + 1) = if xs[i]? ≠ ys[i]? then othersN xs ys i ++ [(i : Int)] else othersN xs ys i := by
  unfold othersN
  rw [List.range_succ, List.filter_append, List.map_append]
  by_cases h : xs[i]? ≠ ys[i]?
  · rw [if_pos h]
    congr 1
    simp only [List.filter_cons, List.filter_nil, decide_eq_true h, if_true, List.map_cons, List.map_nil]
  · rw [if_neg h]
    simp only [List.filter_cons, List.filter_nil, decide_eq_false h, Bool.false_eq_true, if_false, List.map_nil, List.append_nil]
theorem othersN_len (xs ys : List Int) (i : Nat) : (othersN xs ys i).length ≤ i := by
  unfold othersN
  rw [List.length_map]
  have := List.length_filter_le (fun i => decide (xs[i]? ≠ ys[i]?)) (List.range i)
  rw [List.length_range] at this
  exact this
def spOthers (K : PySem.W.Frag) : Sp := fun vs H Q _ => ∃ a b xs ys, vs = [.ref a, .ref b] ∧ SqL K H a (xs.map V.int) ∧ SqL K H b (ys.map V.int) ∧ xs.length ≤ 1000 ∧ ys.length ≤ 1000 ∧ ∀ H' p, Same H H' → H p = none → H' p = some (.lst ((othersL xs ys).map V.int)) → Q (.ref p) H'
theorem ok_others_now {f : Addr} {fd : FuncData} (F : Fun K "others_now" "others_now" s_others_now f fd) (B : Bi mg) (Bz : mg "zip" = none) : FnOk P w K mg base CX0 1 f fd ["before", "after"] (spOthers K) := by
  refine F.ok sc_others_now (fun vs H Q E h => ?_) (fun cdv A outer s H vs Q E hr h => ?_)
  · obtain ⟨_, _, _, _, rfl, _⟩ := h
    rfl
  · obtain ⟨a, b, xs, ys, rfl, ha, hb, hx, hy, q⟩ := h
    refine ⟨_, (pss_one (ps_ret (pe_lc (own := [("at", 2), ("old", 3), ("new", 4)]) (g := (gTup K 2 (gCons (gName 2) (gCons (gTup K 2 (gCons (gName 3) (gCons (gName 4) gNil))) gNil)))) rfl sc_others_now.nd (pi_enumzip (by rfl) B.enumerate (by rfl) Bz (pa_cons (pv 0) (pa_cons (pv 1) pa_nil))) (blkOk_by (own := [("at", 2), ("old", 3), ("new", 4)]) (N := ["before", "after", "at", "old", "new"]) (sc := defScope s_others_now) (by decide +kernel)) (fun _ _ _ _ _ => (pg_tup rfl (pgs_cons (pg_name (i := 2) sc_others_now.nd rfl (Or.inl rfl)) (pgs_cons (pg_tup rfl (pgs_cons (pg_name (i := 3) sc_others_now.nd rfl (Or.inl rfl)) (pgs_cons (pg_name (i := 4) sc_others_now.nd rfl (Or.inl rfl)) pgs_nil))) pgs_nil)))) (fun _ _ _ _ _ => (pts_one (pt_cmpR op_ne (pv 3) (pv 4) (nomark _)))) (fun _ _ _ _ _ => (pv 2))))), ?_⟩
    walk_at "wp"
    refine ⟨_, _, ha, hb, fun D hD => ?_⟩
    refine LcR.by (walk_enumzip (n := min xs.length ys.length) (xs := xs.map V.int) (ys := ys.map V.int) (by rw [List.length_map, List.length_map])) (fun i H1 => Same H H1 ∧ H1 D = some (.lst ((othersN xs ys i).map V.int))) ⟨same_upd hD, upd_same⟩ (fun i H1 _ hI => ⟨hI.1.seq ha, hI.1.seq hb⟩) (fun i x H0 H1 hi hI yy => ?_) (fun H1 hI => ?_)
    · obtain ⟨T, U, z1, z2, rfl, hT, hU, rfl, e1, e2⟩ := yy
      obtain ⟨S0, eD⟩ := hI
      have ST := same_upd (o := .tup [z1, z2]) hT
      have SU := same_upd (o := .tup [.int (i : Nat), .ref T]) hU
      have eT : upd (upd H0 T (.tup [z1, z2])) U (.tup [.int (i : Nat), .ref T]) T = some (.tup [z1, z2]) := SU _ _ upd_same
      have eU : upd (upd H0 T (.tup [z1, z2])) U (.tup [.int (i : Nat), .ref T]) U = some (.tup [.int (i : Nat), .ref T]) := upd_same
      have S2 := S0.trans (ST.trans SU)
      have eD2 := SU _ _ (ST _ _ eD)
      generalize upd (upd H0 T (.tup [z1, z2])) U (.tup [.int (i : Nat), .ref T]) = H2 at eT eU S2 eD2 ⊢
      have e1 : (xs.map V.int)[i]? = some z1 := e1
      have e2 : (ys.map V.int)[i]? = some z2 := e2
      rw [List.getElem?_map] at e1 e2
      obtain ⟨x1, hx1, rfl⟩ := Option.map_eq_some_iff.mp e1
      obtain ⟨y1, hy1, rfl⟩ := Option.map_eq_some_iff.mp e2
      walk_at "wp"
      refine ⟨_, SqT.of eU, rfl, ?_⟩
      walk_at "wp"
      refine ⟨_, SqT.of eT, rfl, ?_⟩
      walk_at "wp"
      have hlen := othersN_len xs ys i
      have sD : ∀ o, Same H (upd H2 D o) := fun o b p e => by
        rw [upd_ne (fun z => by rw [z, hD] at e; cases e)]
        exact S2 _ _ e
      by_cases hne : x1 = y1
      · rw [decide_eq_true hne, Bool.not_true, if_neg (by decide)]
        refine ⟨S2, ?_⟩
        rw [othersN_succ, if_neg (by rw [hx1, hy1, hne]; exact fun h => h rfl)]
        exact eD2
      · rw [decide_eq_false hne, Bool.not_false, if_pos rfl]
        refine ⟨_, eD2, by rw [List.length_map]; exact Nat.lt_of_le_of_lt (show _ ≤ 1000 by omega) (by decide), sD _, ?_⟩
        rw [upd_same, othersN_succ, if_pos (by rw [hx1, hy1]; exact fun h => hne (Option.some.inj h)), List.map_append]
        rfl
    · exact q _ _ hI.1 (by
        cases e : H D with
        | none => rfl
        | some o' => rw [hD] at e; cases e) (by rw [hI.2]; rfl)
end
end Bk

namespace Bk
open PySem PySem.Spec PyProof.Rows L2
open C8 (Met pe_mt pe_mt0)
local macro_rules | `(tactic| walk_at "wp") => `(tactic| try simp only [iZipA_eq, rZipA_r, iEnumZip_eq, rEnumZip_r, tFld_eq, tMeth_eq, rTIx_r, tTru, tScT2, rSetL_r, rSetOf2_r, rSorDT_r, rSetD, tDGet2, tDGet, tDNewT, cxW, rExtend_r, rSortU_r, rSetOf_r, rSortedSet_r, rNinr_r, rNeN_r, rCatL_r, rSlT_r, rListOf_r, rIsB_b, rNotB_b, tFmtO, tJs, tOst, tCallS, WE, tRaise2, rOne_i, rSorD_r, tDNewK, Int.zero_add, tNever, tFor_eq, tLc_eq, iList, iTup, iRng1_eq, rRng1_i, iRng2_eq, rRng2_i, iEnum_eq, rEnum_r, iZip_eq, rZip_r, tSl, tPart, tNoPart, rSlL_r, rCat_r, rIn_r, rNin_r, rRepr_r, iRevR, rMin_r, rShr_i, rOdd_i, rSetL_r, gSub, rRg1_i, rRg2_i, rInr_r, tAug, ipI_ii, tLstRg, tRg1, tRg2, gTup_r, gUnl_r, rInt1_b, rInt1_i, rRep_r, tStep_r, scal, tSeq, tNext, tAsg, tRet, tRetN, tIfS, tDrop, tCB, tCons, tNil, tVar, tOp, tUn, tC, rU_i, rI_ii, rI0_ii, rEq, rNe, tTest, tB, tAnd, tOr, tNot, tAndV, tOrV, tNotV, tIf, tChain, tLst, tTup, tBM, tBM0, rAppend_r, rIxL_r, rIxT_r, rMx_ii, rMn_ii, rLnL_r, rLnT_r, rIsD_int, rIsD_bool, rIsD_list, rIsD_tuple, tCall, gName, gNil_n, gCons_c, cxK, L2.start, List.map, List.replicate, List.length_cons, List.length_nil, List.cons_append, List.nil_append, List.append_nil, List.getElem?_cons_zero, List.getElem?_cons_succ, Option.some.injEq, exists_eq_left', exists_eq_left, V.int.injEq, V.bl.injEq, V.str.injEq, V.ref.injEq, List.cons.injEq, and_true, true_and, and_self, List.set, wipe, rAll_r, rSum_r, reduceCtorEq, decide_true, decide_false, reduceIte, ite_true, ite_false, if_true, if_false, Bool.false_eq_true, Bool.not_true, Bool.not_false])
local macro_rules | `(tactic| walk_at "shaped") => `(tactic| (simp only [SeqAt.shaped, PyData.canLay0, PyData.canLayAll0, PyData.depth, PyData.depthAll]; rfl))
local macro_rules | `(tactic| walk_at "lay") => `(tactic| (simp only [PyData.canLay0, PyData.canLayAll0]; rfl))
local macro_rules | `(tactic| walk_at "wg") => `(tactic| try simp only [gName, gTup_r, gCons_c, gNil_n, cxK, List.set, List.cons.injEq, and_true, true_and, exists_eq_left', exists_eq_left, List.length_cons, List.length_nil])
section
variable {P : Program} {w : World} {K : PySem.W.Frag} {mg : Str → Option Value} {base : Heap}
abbrev s_Ledger_bakery : Stmt := inClass (top 75) 4
theorem sc_Ledger_bakery : FnScope ["self"] ["self"] (defScope s_Ledger_bakery) := ⟨rfl, rfl, rfl, by decide +kernel, rfl, by decide +kernel, by decide +kernel⟩
def spLBak (K : PySem.W.Frag) (C : Addr) : Sp := fun vs H Q _ => ∃ p L D E ls g ds, vs = [.ref p] ∧ Led C H p L D E ls g ds ∧ ∀ H' t, Same H H' → Tk (but [L, D, E] H') (.ref t) (bakD ⟨ls, none, [g]⟩) → Q (.ref t) H'
theorem ok_Ledger_bakery {f C : Addr} {fd : FuncData} (F : Fun K "bakery" "Ledger.bakery" s_Ledger_bakery f fd) (B : Bi mg) (T : LTxt K C) : FnOk P w K mg base CX0 1 f fd ["self"] (spLBak K C) := by
  refine F.ok sc_Ledger_bakery (fun vs H Q E h => ?_) (fun cdv A outer s H vs Q E hr h => ?_)
  · obtain ⟨_, _, _, _, _, _, _, rfl, _⟩ := h
    rfl
  · obtain ⟨p, L, D, E, ls, g, ds, rfl, hL, q⟩ := h
    refine ⟨_, (pss_one (ps_ret (pe_tup (pa_cons (pe_callTy call_listOf (by rfl) B.list (by decide +kernel) (pa_cons (pe_fld (pv 0) rfl) pa_nil)) (pa_cons pe_non (pa_cons (pe_lst (pa_cons (pe_tup (pa_cons (pe_callTy call_listOf (by rfl) B.list (by decide +kernel) (pa_cons (pe_fld (pv 0) rfl) pa_nil)) (pa_cons (pe_fld (pv 0) rfl) pa_nil))) pa_nil)) pa_nil)))))), ?_⟩
    obtain ⟨xs, hd, htk⟩ := hL.da
    walk_at "wp"
    refine hL.fLights T ?_
    walk_at "wp"
    refine ⟨_, .inl (SqL.of hL.li), fun p1 h1 => ?_⟩
    have n1 := hL.not_new h1
    have S1 := same_upd (o := .lst (ls.map V.int)) h1
    have e1 : upd H p1 (.lst (ls.map V.int)) p1 = some (.lst (ls.map V.int)) := upd_same
    generalize upd H p1 (.lst (ls.map V.int)) = H1 at S1 e1 ⊢
    have hL1 := hL.same S1
    refine hL1.fDays T ?_
    walk_at "wp"
    refine ⟨_, .inl (SqL.of (S1 _ _ hd)), fun p2 h2 => ?_⟩
    have n2 := hL1.not_new h2
    have S2 := same_upd (o := .lst xs) h2
    have e2 : upd H1 p2 (.lst xs) p2 = some (.lst xs) := upd_same
    generalize upd H1 p2 (.lst xs) = H2 at S2 e2 ⊢
    have hL2 := hL1.same S2
    refine hL2.fLife T ?_
    walk_at "wp"
    refine ⟨sz100 (by decide), fun p3 h3 => ?_⟩
    have n3 := hL2.not_new h3
    have S3 := same_upd (o := .tup [.ref p2, optV g.life]) h3
    have e3 : upd H2 p3 (.tup [.ref p2, optV g.life]) p3 = some (.tup [.ref p2, optV g.life]) := upd_same
    generalize upd H2 p3 (.tup [.ref p2, optV g.life]) = H3 at S3 e3 ⊢
    have hL3 := hL2.same S3
    refine ⟨sz100 (by decide), fun p4 h4 => ?_⟩
    have n4 := hL3.not_new h4
    have S4 := same_upd (o := .lst [.ref p3]) h4
    have e4 : upd H3 p4 (.lst [.ref p3]) p4 = some (.lst [.ref p3]) := upd_same
    generalize upd H3 p4 (.lst [.ref p3]) = H4 at S4 e4 ⊢
    have hL4 := hL3.same S4
    refine ⟨sz100 (by decide), fun p5 h5 => ?_⟩
    have n5 := hL4.not_new h5
    have S5 := same_upd (o := .tup [.ref p1, .non, .ref p4]) h5
    have e5 : upd H4 p5 (.tup [.ref p1, .non, .ref p4]) p5 = some (.tup [.ref p1, .non, .ref p4]) := upd_same
    generalize upd H4 p5 (.tup [.ref p1, .non, .ref p4]) = H5 at S5 e5 ⊢
    have S15 := S2.trans (S3.trans (S4.trans S5))
    have SA := S1.trans S15
    refine q _ _ SA ?_
    have hdays : TkAll (but [L, D, E] H5) xs (g.days.map dayD) := htk.same fun b o e => by
      obtain ⟨e', ys, rfl⟩ := tupsOf_is e
      exact but_at (hL.not_tup e') (SA _ _ e')
    exact .tup (but_at n5 e5) (.cons (.lst (but_at n1 (S15 _ _ e1)) (TkAll.ints ls)) (.cons .non (.cons (.lst (but_at n4 (S5 _ _ e4)) (.cons (.tup (but_at n3 ((S4.trans S5) _ _ e3)) (.cons (.lst (but_at n2 ((S3.trans (S4.trans S5)) _ _ e2)) hdays) (.cons (Tk.optV _) .nil))) .nil)) .nil)))
abbrev s_Ledger_costs : Stmt := inClass (top 75) 5
theorem sc_Ledger_costs : FnScope ["self"] ["self"] (defScope s_Ledger_costs) := ⟨rfl, rfl, rfl, by decide +kernel, rfl, by decide +kernel, by decide +kernel⟩
def spLCosts (K : PySem.W.Frag) (C : Addr) : Sp := fun vs H Q _ => ∃ p L D E ls g ds, vs = [.ref p] ∧ Led C H p L D E ls g ds ∧ ∀ (H' : Hp) (r : Addr) (rs : List Int), Same H H' → H r = none → H' r = some (.lst (rs.map V.int)) → rs.length = ls.length + 1 → IsRow g (rowF ls) (rowF rs) ls.length → Q (.ref r) H'
theorem ok_Ledger_costs {f C : Addr} {fd : FuncData} (F : Fun K "costs" "Ledger.costs" s_Ledger_costs f fd) (D_least_row : Def P w K mg base "least_row" 9 ["bakery"] (spRow K)) (T_bakery : Met P w K mg base 1 C "bakery" (spLBak K C) []) : FnOk P w K mg base CX0 10 f fd ["self"] (spLCosts K C) := by
  refine F.ok sc_Ledger_costs (fun vs H Q E h => ?_) (fun cdv A outer s H vs Q E hr h => ?_)
  · obtain ⟨_, _, _, _, _, _, _, rfl, _⟩ := h
    rfl
  · obtain ⟨p, L, D, E, ls, g, ds, rfl, hL, q⟩ := h
    refine ⟨_, (pss_one (ps_ret (pe_callD D_least_row hr (by rfl) (pa_cons (pe_mt0 T_bakery hr (by omega) (pv 0)) pa_nil)))), ?_⟩
    walk_at "wp"
    refine ⟨hL.isObj, ?_⟩
    walk_at "wp"
    refine ⟨p, L, D, E, ls, g, ds, rfl, hL, fun H1 t S1 ht => ?_⟩
    refine ⟨_, ls, g, rfl, (ht.same (but_same _ _)).th, hL.ok, fun H2 r rs S2 hr2 e2 hl hrow => ?_⟩
    refine q _ r rs (S1.trans S2) ?_ e2 hl hrow
    cases e : H r with
    | none => rfl
    | some o => rw [S1 _ _ e] at hr2; cases hr2
theorem day_at {H : Hp} {xs : List V} {ys : List Day} {i : Nat} {d : Day} (h : TkAll (tupsOf H) xs (ys.map dayD)) (hd : ys[i]? = some d) : ∃ v, xs[i]? = some v ∧ ∃ t, v = .ref t ∧ H t = some (.tup [.int d.want, .int d.loaf, .int d.keep, optV d.fine]) := by
  have hl := h.length
  rw [List.length_map] at hl
  have hi := (List.getElem?_eq_some_iff.mp hd).1
  obtain ⟨dd, h1, h2⟩ := h.get (List.getElem?_eq_getElem (show i < xs.length by omega))
  rw [List.getElem?_map, hd] at h1
  cases h1
  refine ⟨_, List.getElem?_eq_getElem (show i < xs.length by omega), ?_⟩
  generalize xs[i] = v at h2
  have h2 : Tk (tupsOf H) v (.tuple [.int d.want, .int d.loaf, .int d.keep, optD d.fine]) := h2
  cases h2 with
  | tup ht hta =>
    cases hta with
    | cons t1 hta => cases hta with
    | cons t2 hta => cases hta with
    | cons t3 hta => cases hta with
    | cons t4 hta =>
    cases hta
    cases t1; cases t2; cases t3
    have e := t4.opt
    subst e
    exact ⟨_, rfl, (tupsOf_is ht).1⟩
theorem Led.day1 {C p L D E : Addr} {H : Hp} {ls : List Int} {g : Good} {ds : List Deed} (h : Led C H p L D E ls g ds) : g.days.length = ls.length ∧ 1 ≤ ls.length ∧ ls.length ≤ 40 := by
  obtain ⟨⟨c1, c2⟩, c3, c4, ⟨c5, c6⟩, c7⟩ := bak_parts h.ok
  exact ⟨(c7 g List.mem_cons_self).1, c1, c2⟩
abbrev s_Ledger_worth_at : Stmt := inClass (top 75) 13
theorem sc_Ledger_worth_at : FnScope ["self", "day", "part"] ["self", "day", "part"] (defScope s_Ledger_worth_at) := ⟨rfl, rfl, rfl, by decide +kernel, rfl, by decide +kernel, by decide +kernel⟩
def worthD (s : Str) (d : Day) : Option Int := if s = "want" then some d.want else if s = "loaf" then some d.loaf else if s = "keep" then some d.keep else d.fine
def worthL (ls : List Int) (g : Good) (i : Nat) (s : Str) : Option Int := if s = "light" then some (rowF ls i) else match g.days[i]? with
  | some d => worthD s d
  | none => none
def spLWorth (K : PySem.W.Frag) (C : Addr) : Sp := fun vs H Q _ => ∃ p L D E ls g ds, ∃ (i : Nat) (s : Str), vs = [.ref p, .int (i : Int), .str s] ∧ Led C H p L D E ls g ds ∧ i < ls.length ∧ partB s = true ∧ ∀ H', Same H H' → Q (optV (worthL ls g i s)) H'
theorem ok_Ledger_worth_at {f C A1 : Addr} {fd : FuncData} {t1 : Tok} (F : Fun K "worth_at" "Ledger.worth_at" s_Ledger_worth_at f fd) (T : LTxt K C) (M_LIGHT : mg "LIGHT" = some (.str "light" t1)) (M_PARTS : mg "PARTS" = some (.ref A1)) (PT : PartsT K A1) (PTy : ∃ o, K.lookup A1 = some o ∧ o.cls = .type "tuple" ∧ o.dict = none) : FnOk P w K mg base CX0 1 f fd ["self", "day", "part"] (spLWorth K C) := by
  refine F.ok sc_Ledger_worth_at (fun vs H Q E h => ?_) (fun cdv A outer s H vs Q E hr h => ?_)
  · obtain ⟨_, _, _, _, _, _, _, _, _, rfl, _⟩ := h
    rfl
  · obtain ⟨p, L, D, E, ls, g, ds, i, z, rfl, hL, hi, hz, q⟩ := h
    refine ⟨_, (pss_one (ps_ret (pe_ifExp (pt_cmpR op_eq (pv 2) (pe_globS rfl M_LIGHT) (nomark _)) (pe_ix ix_list (pe_fld (pv 0) rfl) (pv 1) (fun _ _ => rfl)) (pe_ix ix_tup (pe_ix ix_list (pe_fld (pv 0) rfl) (pv 1) (fun _ _ => rfl)) (pe_bm PySem.F.plainAttrs_tuple PySem.F.slot_tuple_index PySem.F.type_tuple_index mt_tix (pe_globR (by rfl) M_PARTS) (pa_cons (pv 2) pa_nil)) (fun _ _ => rfl))))), ?_⟩
    obtain ⟨xs, hd, htk⟩ := hL.da
    walk_at "wp"
    by_cases h1 : z = "light"
    · rw [decide_eq_true (show z = Str.ofString "light" from h1), if_pos rfl]
      refine hL.fLights T ?_
      walk_at "wp"
      refine ⟨_, _, SqL.of hL.li, atI_nat (j := i) (v := .int (rowF ls i)) ?_, ?_⟩
      · rw [List.getElem?_map, List.getElem?_eq_getElem hi]
        unfold rowF
        rw [List.getD_eq_getElem?_getD, List.getElem?_eq_getElem hi]
        rfl
      · have := q _ (Same.refl _)
        unfold worthL at this
        rw [if_pos h1] at this
        exact this
    · rw [decide_eq_false (show ¬ z = Str.ofString "light" from h1), if_neg (by decide)]
      refine hL.fDays T ?_
      walk_at "wp"
      have hm : z ∈ partsL := by
        unfold partB at hz
        rw [decide_eq_false h1, Bool.false_or] at hz
        exact of_decide_eq_true hz
      obtain ⟨c1, c2, c3⟩ := hL.day1
      have hdi : i < g.days.length := by omega
      have hd' : g.days[i]? = some g.days[i] := List.getElem?_eq_getElem hdi
      generalize g.days[i] = d at hd'
      obtain ⟨vd, hvd, t, rfl, ht⟩ := day_at htk hd'
      refine ⟨_, _, SqL.of hd, atI_nat (j := i) hvd, ?_⟩
      walk_at "wp"
      refine ⟨.inr (.inl ⟨rfl, PTy⟩), ?_⟩
      have hq := q _ (Same.refl _)
      unfold worthL at hq
      rw [if_neg h1, hd'] at hq
      have fin : ∀ (j : Nat) (v : V), partsL[j]? = some z → (∀ m, m < j → partsL[m]? ≠ some z) → ([.int d.want, .int d.loaf, .int d.keep, optV d.fine] : List V)[j]? = some v → v = optV (worthD z d) → ∃ ys j, SqT K H A1 (List.map V.str ys) ∧ ys[j]? = some z ∧ (∀ (m : Nat), m < j → ys[m]? ≠ some z) ∧ ∃ xs v, SqT K H t xs ∧ atI xs (j : Int) = some v ∧ Q v H := fun j v a1 a2 a3 a4 => by
        exact ⟨partsL, j, PT _, a1, a2, _, _, SqT.of ht, atI_nat (j := j) a3, by rw [a4]; exact hq⟩
      simp only [partsL, List.mem_cons, List.not_mem_nil, or_false] at hm
      rcases hm with rfl | rfl | rfl | rfl
      · exact fin 0 _ rfl (by decide +kernel) rfl (by unfold worthD; rw [if_pos rfl]; rfl)
      · exact fin 1 _ rfl (by decide +kernel) rfl (by unfold worthD; rw [if_neg (by decide +kernel), if_pos rfl]; rfl)
      · exact fin 2 _ rfl (by decide +kernel) rfl (by unfold worthD; rw [if_neg (by decide +kernel), if_neg (by decide +kernel), if_pos rfl]; rfl)
      · exact fin 3 _ rfl (by decide +kernel) rfl (by unfold worthD; rw [if_neg (by decide +kernel), if_neg (by decide +kernel), if_neg (by decide +kernel)])
end
end Bk

namespace Bk
open PySem PySem.Spec PyProof.Rows L2
open C8 (Met pe_mt pe_mt0)
local macro_rules | `(tactic| walk_at "wp") => `(tactic| try simp only [iZipA_eq, rZipA_r, iEnumZip_eq, rEnumZip_r, tFld_eq, tMeth_eq, rTIx_r, tTru, tScT2, rSetL_r, rSetOf2_r, rSorDT_r, rSetD, tDGet2, tDGet, tDNewT, cxW, rExtend_r, rSortU_r, rSetOf_r, rSortedSet_r, rNinr_r, rNeN_r, rCatL_r, rSlT_r, rListOf_r, rIsB_b, rNotB_b, tFmtO, tJs, tOst, tCallS, WE, tRaise2, rOne_i, rSorD_r, tDNewK, Int.zero_add, tNever, tFor_eq, tLc_eq, iList, iTup, iRng1_eq, rRng1_i, iRng2_eq, rRng2_i, iEnum_eq, rEnum_r, iZip_eq, rZip_r, tSl, tPart, tNoPart, rSlL_r, rCat_r, rIn_r, rNin_r, rRepr_r, iRevR, rMin_r, rShr_i, rOdd_i, rSetL_r, gSub, rRg1_i, rRg2_i, rInr_r, tAug, ipI_ii, tLstRg, tRg1, tRg2, gTup_r, gUnl_r, rInt1_b, rInt1_i, rRep_r, tStep_r, scal, tSeq, tNext, tAsg, tRet, tRetN, tIfS, tDrop, tCB, tCons, tNil, tVar, tOp, tUn, tC, rU_i, rI_ii, rI0_ii, rEq, rNe, tTest, tB, tAnd, tOr, tNot, tAndV, tOrV, tNotV, tIf, tChain, tLst, tTup, tBM, tBM0, rAppend_r, rIxL_r, rIxT_r, rMx_ii, rMn_ii, rLnL_r, rLnT_r, rIsD_int, rIsD_bool, rIsD_list, rIsD_tuple, tCall, gName, gNil_n, gCons_c, cxK, L2.start, List.map, List.replicate, List.length_cons, List.length_nil, List.cons_append, List.nil_append, List.append_nil, List.getElem?_cons_zero, List.getElem?_cons_succ, Option.some.injEq, exists_eq_left', exists_eq_left, V.int.injEq, V.bl.injEq, V.str.injEq, V.ref.injEq, List.cons.injEq, and_true, true_and, and_self, List.set, wipe, rAll_r, rSum_r, reduceCtorEq, decide_true, decide_false, reduceIte, ite_true, ite_false, if_true, if_false, Bool.false_eq_true, Bool.not_true, Bool.not_false])
local macro_rules | `(tactic| walk_at "shaped") => `(tactic| (simp only [SeqAt.shaped, PyData.canLay0, PyData.canLayAll0, PyData.depth, PyData.depthAll]; rfl))
local macro_rules | `(tactic| walk_at "lay") => `(tactic| (simp only [PyData.canLay0, PyData.canLayAll0]; rfl))
local macro_rules | `(tactic| walk_at "wg") => `(tactic| try simp only [gName, gTup_r, gCons_c, gNil_n, cxK, List.set, List.cons.injEq, and_true, true_and, exists_eq_left', exists_eq_left, List.length_cons, List.length_nil])
section
variable {P : Program} {w : World} {K : PySem.W.Frag} {mg : Str → Option Value} {base : Heap}
abbrev s_Ledger_set_part : Stmt := inClass (top 75) 14
theorem sc_Ledger_set_part : FnScope ["self", "day", "part", "number", "before"] ["self", "day", "part", "number"] (defScope s_Ledger_set_part) := ⟨rfl, rfl, rfl, by decide +kernel, rfl, by decide +kernel, by decide +kernel⟩
/-- a bakery's days and lights with one part set -/
def setLs (ls : List Int) (i : Nat) (s : Str) (o : Option Int) : List Int := if s = "light" then ls.set i (o.getD 0) else ls
def setGd (g : Good) (i : Nat) (s : Str) (o : Option Int) : Good := if s = "light" then g else match g.days[i]? with
  | some d => setG g i (withD s o d)
  | none => g
theorem setLs_len {ls : List Int} {i : Nat} {s : Str} {o : Option Int} : (setLs ls i s o).length = ls.length := by
  unfold setLs
  split
  · rw [List.length_set]
  · rfl
theorem optD_num {o : Option Int} (h : numD (optD o) = true) : ∃ z, o = some z ∧ numD (.int z) = true := by
  cases o with
  | none => cases h
  | some z => exact ⟨z, rfl, h⟩
theorem worth_num {s : Str} {o : Option Int} (h : worthB s o = true) (hs : s ≠ "fine") : ∃ z, o = some z ∧ numD (.int z) = true := by
  unfold worthB at h
  rw [decide_eq_false hs, Bool.false_and, Bool.or_false] at h
  exact optD_num h
theorem withD_ok {s : Str} {o : Option Int} {d : Day} (h : worthB s o = true) (hd : dayB (dayD d) = true) : dayB (dayD (withD s o d)) = true := by
  obtain ⟨w, l, k, f⟩ := d
  simp only [dayB, dayD, Bool.and_eq_true] at hd ⊢
  obtain ⟨⟨⟨a1, a2⟩, a3⟩, a4⟩ := hd
  unfold withD
  by_cases h1 : s = "want"
  · obtain ⟨y, rfl, hy⟩ := worth_num h (by rw [h1]; decide +kernel)
    rw [if_pos h1]
    exact ⟨⟨⟨hy, a2⟩, a3⟩, a4⟩
  · rw [if_neg h1]
    by_cases h2 : s = "loaf"
    · obtain ⟨y, rfl, hy⟩ := worth_num h (by rw [h2]; decide +kernel)
      rw [if_pos h2]
      exact ⟨⟨⟨a1, hy⟩, a3⟩, a4⟩
    · rw [if_neg h2]
      by_cases h3 : s = "keep"
      · obtain ⟨y, rfl, hy⟩ := worth_num h (by rw [h3]; decide +kernel)
        rw [if_pos h3]
        exact ⟨⟨⟨a1, a2⟩, hy⟩, a4⟩
      · rw [if_neg h3]
        by_cases h4 : s = "fine"
        · rw [if_pos h4]
          refine ⟨⟨⟨a1, a2⟩, a3⟩, ?_⟩
          cases o with
          | none => rfl
          | some y =>
            unfold worthB at h
            have h : numD (optD (some y)) = true := by
              rw [Option.isNone_some, Bool.and_false, Bool.or_false] at h
              exact h
            show (noneB (optD (some y)) || numD (optD (some y))) = true
            rw [h, Bool.or_true]
        · rw [if_neg h4]
          exact ⟨⟨⟨a1, a2⟩, a3⟩, a4⟩
def spLSet (K : PySem.W.Frag) (C : Addr) : Sp := fun vs H Q _ => ∃ p L D E ls g ds, ∃ (i : Nat) (s : Str) (o : Option Int), vs = [.ref p, .int (i : Int), .str s, optV o] ∧ Led C H p L D E ls g ds ∧ i < ls.length ∧ partB s = true ∧ worthB s o = true ∧
  ∀ (H' : Hp) (r : Addr) (bs cs : List Int), Same (but [L, D, E] H) (but [L, D, E] H') → Led C H' p L D E (setLs ls i s o) (setGd g i s o) ds → H r = none → H' r = some (.lst ((othersL bs cs).map V.int)) →
    bs.length = ls.length + 1 → IsRow g (rowF ls) (rowF bs) ls.length → cs.length = ls.length + 1 → IsRow (setGd g i s o) (rowF (setLs ls i s o)) (rowF cs) ls.length → Q (.ref r) H'
theorem ok_Ledger_set_part {f C : Addr} {fd : FuncData} {t1 : Tok} (F : Fun K "set_part" "Ledger.set_part" s_Ledger_set_part f fd) (T : LTxt K C) (M_LIGHT : mg "LIGHT" = some (.str "light" t1)) (D_with_part : Def P w K mg base "with_part" 1 ["day", "part", "number"] (spWith K)) (D_others_now : Def P w K mg base "others_now" 1 ["before", "after"] (spOthers K)) (T_costs : Met P w K mg base 10 C "costs" (spLCosts K C) []) : FnOk P w K mg base CX0 11 f fd ["self", "day", "part", "number"] (spLSet K C) := by
  refine F.ok sc_Ledger_set_part (fun vs H Q E h => ?_) (fun cdv A outer s H vs Q E hr h => ?_)
  · obtain ⟨_, _, _, _, _, _, _, _, _, _, rfl, _⟩ := h
    rfl
  · obtain ⟨p, L, D, E, ls, g, ds, i, z, o, rfl, hL, hi, hz, ho, q⟩ := h
    refine ⟨_, (pss_cons (ps_set (i := 4) sc_Ledger_set_part.nd rfl (Or.inl rfl) (pe_mt0 T_costs hr (by omega) (pv 0)))
 (pss_cons (ps_if (pt_cmpR op_eq (pv 2) (pe_globS rfl M_LIGHT) (nomark _)) (pss_one (ps_asg (pv 3) (pg_sub (pe_fld (pv 0) rfl) (pv 1) set_list))) (pss_one (ps_asg (pe_callD D_with_part hr (by rfl) (pa_cons (pe_ix ix_list (pe_fld (pv 0) rfl) (pv 1) (fun _ _ => rfl)) (pa_cons (pv 2) (pa_cons (pv 3) pa_nil)))) (pg_sub (pe_fld (pv 0) rfl) (pv 1) set_list))))
 (pss_one (ps_ret (pe_callD D_others_now hr (by rfl) (pa_cons (pv 4) (pa_cons (pe_mt0 T_costs hr (by omega) (pv 0)) pa_nil))))))), ?_⟩
    have h40 := hL.day1
    have after : ∀ (H1 H2 : Hp) (rb : Addr) (bs : List Int) (E8 : XK), Same H H1 → H rb = none → H1 rb = some (.lst (bs.map V.int)) → bs.length = ls.length + 1 → IsRow g (rowF ls) (rowF bs) ls.length → Same (but [L, D, E] H1) (but [L, D, E] H2) → Led C H2 p L D E (setLs ls i z o) (setGd g i z o) ds →
        IsObj C "costs" (V.ref p) H2 ∧ spLCosts K C [V.ref p] H2 (fun x4 H1 => spOthers K [V.ref rb, x4] H1 Q E0) E8 := fun H1 H2 rb bs E8 S1 hrb eb hbl hbr S2 hL2 => by
      refine ⟨hL2.isObj, p, L, D, E, _, _, ds, rfl, hL2, fun H3 rc cs S3 hrc ec hcl hcr => ?_⟩
      rw [setLs_len] at hcl hcr
      have hn := hL.not_new hrb
      have eb3 := S3 _ _ (but_is (S2 _ _ (but_at hn eb))).2
      refine ⟨rb, rc, bs, cs, rfl, SqL.of eb3, SqL.of ec, by omega, by omega, fun H4 r S4 hr4 e4 => ?_⟩
      refine q H4 r bs cs ((but_mono S1).trans (S2.trans (but_mono (S3.trans S4)))) ((hL2.same S3).same S4) ?_ e4 hbl hbr hcl hcr
      cases e : H r with
      | none => rfl
      | some ob =>
        by_cases hm : r ∈ [L, D, E]
        · exact absurd hm ((hL2.same S3).not_new hr4)
        · rw [(but_is ((S2.trans (but_mono S3)) _ _ (but_at hm (S1 _ _ e)))).2] at hr4
          cases hr4
    walk_at "wp"
    refine ⟨hL.isObj, ?_⟩
    walk_at "wp"
    refine ⟨p, L, D, E, ls, g, ds, rfl, hL, fun H1 rb bs S1 hrb eb hbl hbr => ?_⟩
    have hL1 := hL.same S1
    walk_at "wp"
    by_cases h1 : z = "light"
    · obtain ⟨y, rfl, hy⟩ := worth_num ho (by rw [h1]; decide +kernel)
      rw [decide_eq_true (show z = Str.ofString "light" from h1), if_pos rfl]
      refine hL1.fLights T ?_
      walk_at "wp"
      refine ⟨_, i, hL1.li, ixN_nat (by rw [List.length_map]; exact hi), ?_⟩
      have e1 : (ls.map V.int).set i (optV (some y)) = (ls.set i y).map V.int := by rw [List.map_set]; rfl
      rw [e1]
      refine after H1 _ rb bs _ S1 hrb eb hbl hbr (by rw [but_upd (by simp)]; exact Same.refl _) ?_
      have := hL1.light (i := i) hy
      unfold setLs setGd
      rw [if_pos h1, if_pos h1]
      exact this
    · rw [decide_eq_false (show ¬ z = Str.ofString "light" from h1), if_neg (by decide)]
      obtain ⟨xs, hd, htk⟩ := hL1.da
      have hdi : i < g.days.length := by omega
      have hd' : g.days[i]? = some g.days[i] := List.getElem?_eq_getElem hdi
      have hdm := List.getElem_mem hdi
      generalize g.days[i] = d at hd' hdm
      have hdo : dayB (dayD d) = true := ((bak_parts hL.ok).2.2.2.2 g List.mem_cons_self).2.2 d hdm
      obtain ⟨vd, hvd, t, rfl, ht⟩ := day_at htk hd'
      refine hL1.fDays T ?_
      walk_at "wp"
      refine ⟨_, _, SqL.of hd, atI_nat (j := i) hvd, ?_⟩
      refine ⟨t, z, o, d, rfl, ht, ho, fun H2 r S2 hr e2 => ?_⟩
      have hL2 := hL1.same S2
      refine hL2.fDays T ?_
      walk_at "wp"
      refine ⟨_, i, S2 _ _ hd, ixN_nat (by rw [htk.length, List.length_map]; exact hdi), ?_⟩
      refine after H1 _ rb bs _ S1 hrb eb hbl hbr (by rw [but_upd (by simp)]; exact but_mono S2) ?_
      have := hL2.day (i := i) (S2 _ _ hd) e2 (withD_ok ho hdo)
      unfold setLs setGd
      rw [if_neg h1, if_neg h1, hd']
      exact this
end
end Bk

namespace Bk
open PySem PySem.Spec PyProof.Rows L2
open C8 (Met pe_mt pe_mt0)
local macro_rules | `(tactic| walk_at "wp") => `(tactic| try simp only [sFld, iZipA_eq, rZipA_r, iEnumZip_eq, rEnumZip_r, tFld_eq, tMeth_eq, rTIx_r, tTru, tScT2, rSetL_r, rSetOf2_r, rSorDT_r, rSetD, tDGet2, tDGet, tDNewT, cxW, rExtend_r, rSortU_r, rSetOf_r, rSortedSet_r, rNinr_r, rNeN_r, rCatL_r, rSlT_r, rListOf_r, rIsB_b, rNotB_b, tFmtO, tJs, tOst, tCallS, WE, tRaise2, rOne_i, rSorD_r, tDNewK, Int.zero_add, tNever, tFor_eq, tLc_eq, iList, iTup, iRng1_eq, rRng1_i, iRng2_eq, rRng2_i, iEnum_eq, rEnum_r, iZip_eq, rZip_r, tSl, tPart, tNoPart, rSlL_r, rCat_r, rIn_r, rNin_r, rRepr_r, iRevR, rMin_r, rShr_i, rOdd_i, rSetL_r, gSub, rRg1_i, rRg2_i, rInr_r, tAug, ipI_ii, tLstRg, tRg1, tRg2, gTup_r, gUnl_r, rInt1_b, rInt1_i, rRep_r, tStep_r, scal, tSeq, tNext, tAsg, tRet, tRetN, tIfS, tDrop, tCB, tCons, tNil, tVar, tOp, tUn, tC, rU_i, rI_ii, rI0_ii, rEq, rNe, tTest, tB, tAnd, tOr, tNot, tAndV, tOrV, tNotV, tIf, tChain, tLst, tTup, tBM, tBM0, rAppend_r, rIxL_r, rIxT_r, rMx_ii, rMn_ii, rLnL_r, rLnT_r, rIsD_int, rIsD_bool, rIsD_list, rIsD_tuple, tCall, gName, gNil_n, gCons_c, cxK, L2.start, List.map, List.replicate, List.length_cons, List.length_nil, List.cons_append, List.nil_append, List.append_nil, List.getElem?_cons_zero, List.getElem?_cons_succ, Option.some.injEq, exists_eq_left', exists_eq_left, V.int.injEq, V.bl.injEq, V.str.injEq, V.ref.injEq, List.cons.injEq, and_true, true_and, and_self, List.set, wipe, rAll_r, rSum_r, reduceCtorEq, decide_true, decide_false, reduceIte, ite_true, ite_false, if_true, if_false, Bool.false_eq_true, Bool.not_true, Bool.not_false])
local macro_rules | `(tactic| walk_at "shaped") => `(tactic| (simp only [SeqAt.shaped, PyData.canLay0, PyData.canLayAll0, PyData.depth, PyData.depthAll]; rfl))
local macro_rules | `(tactic| walk_at "lay") => `(tactic| (simp only [PyData.canLay0, PyData.canLayAll0]; rfl))
local macro_rules | `(tactic| walk_at "wg") => `(tactic| try simp only [gName, gTup_r, gCons_c, gNil_n, cxK, List.set, List.cons.injEq, and_true, true_and, exists_eq_left', exists_eq_left, List.length_cons, List.length_nil])
section
variable {P : Program} {w : World} {K : PySem.W.Frag} {mg : Str → Option Value} {base : Heap}
abbrev s_Ledger_change : Stmt := inClass (top 75) 10
theorem sc_Ledger_change : FnScope ["self", "day", "part", "number"] ["self", "day", "part", "number"] (defScope s_Ledger_change) := ⟨rfl, rfl, rfl, by decide +kernel, rfl, by decide +kernel, by decide +kernel⟩
def spLChange (K : PySem.W.Frag) (C : Addr) : Sp := fun vs H Q _ => ∃ p L D E ls g ds, ∃ (i : Nat) (s : Str) (o : Option Int), vs = [.ref p, .int (i : Int), .str s, optV o] ∧ Led C H p L D E ls g ds ∧ ds.length ≤ 1000 ∧ i < ls.length ∧ partB s = true ∧ worthB s o = true ∧
  ∀ (H' : Hp) (r : Addr) (bs cs : List Int), Same (but [L, D, E] H) (but [L, D, E] H') → Led C H' p L D E (setLs ls i s o) (setGd g i s o) (ds ++ [some (i, s, worthL ls g i s)]) → H r = none → H' r = some (.lst ((othersL bs cs).map V.int)) →
    bs.length = ls.length + 1 → IsRow g (rowF ls) (rowF bs) ls.length → cs.length = ls.length + 1 → IsRow (setGd g i s o) (rowF (setLs ls i s o)) (rowF cs) ls.length → Q (.ref r) H'
theorem ok_Ledger_change {f C : Addr} {fd : FuncData} (F : FunD K "change" "Ledger.change" (defArgs s_Ledger_change) (defBody s_Ledger_change) (defScope s_Ledger_change) [.non] [] f fd) (B : Bi mg) (T : LTxt K C) (D_is_place : Def P w K mg base "is_place" 2 ["thing", "many"] (spPlace K)) (D_is_part : Def P w K mg base "is_part" 1 ["thing"] (spPart K)) (D_is_worth : Def P w K mg base "is_worth" 3 ["part", "thing"] (spWorth K)) (T_worth_at : Met P w K mg base 1 C "worth_at" (spLWorth K C) []) (T_set_part : Met P w K mg base 11 C "set_part" (spLSet K C) []) : FnOk P w K mg base CX0 12 f fd ["self", "day", "part", "number"] (spLChange K C) := by
  refine okD F sc_Ledger_change (fun vs H Q E h => ?_) (fun cdv A outer s H vs Q E hr h => ?_)
  · obtain ⟨_, _, _, _, _, _, _, _, _, _, rfl, _⟩ := h
    rfl
  · obtain ⟨p, L, D, E, ls, g, ds, i, z, o, rfl, hL, hds, hi, hz, ho, q⟩ := h
    refine ⟨_, (pss_cons (ps_if (pt_not (pt_val (pe_callD D_is_place hr (by rfl) (pa_cons (pv 1) (pa_cons (pe_callB call_lnL (by rfl) B.len (by decide +kernel) (pa_cons (pe_fld (pv 0) rfl) pa_nil)) pa_nil))))) (pss_one ps_never) pss_nil)
 (pss_cons (ps_if (pt_not (pt_val (pe_callD D_is_part hr (by rfl) (pa_cons (pv 2) pa_nil)))) (pss_one ps_never) pss_nil)
 (pss_cons (ps_if (pt_not (pt_val (pe_callD D_is_worth hr (by rfl) (pa_cons (pv 2) (pa_cons (pv 3) pa_nil))))) (pss_one ps_never) pss_nil)
 (pss_cons (ps_expr (pe_bm PySem.F.plainAttrs_list PySem.F.slot_list_append PySem.F.type_list_append mt_append (pe_fld (pv 0) rfl) (pa_cons (pe_tup (pa_cons (pv 1) (pa_cons (pv 2) (pa_cons (pe_mt T_worth_at hr (by omega) (pv 0) (pa_cons (pv 1) (pa_cons (pv 2) pa_nil))) pa_nil)))) pa_nil)))
 (pss_one (ps_ret (pe_mt T_set_part hr (by omega) (pv 0) (pa_cons (pv 1) (pa_cons (pv 2) (pa_cons (pv 3) pa_nil)))))))))), ?_⟩
    walk_at "wp"
    refine hL.fLights T ?_
    walk_at "wp"
    refine ⟨_, SqL.of hL.li, ?_⟩
    rw [List.length_map]
    refine ⟨(i : Int), ls.length, rfl, ?_⟩
    rw [decide_eq_true (show (0 : Int) ≤ (i : Int) by omega), decide_eq_true (show (i : Int) < (ls.length : Int) by omega)]
    walk_at "wp"
    have hE := hL.de
    obtain ⟨ws, he, hw⟩ := hE
    refine ⟨z, rfl, hz, fun H1 S1 => ?_⟩
    walk_at "wp"
    refine ⟨z, o, rfl, ho, fun H2 S2 => ?_⟩
    walk_at "wp"
    have hL2 := (hL.same S1).same S2
    refine hL2.fDeeds T ?_
    have he2 := S2 _ _ (S1 _ _ he)
    refine ⟨.inl ⟨rfl, _, SqL.of he2⟩, hL2.isObj, ?_⟩
    refine ⟨p, L, D, E, ls, g, ds, i, z, rfl, hL2, hi, hz, fun H3 S3 => ⟨sz100 (by decide), fun t ht => ?_⟩⟩
    have hL3 := hL2.same S3
    have S4 := same_upd (o := .tup [V.int (i : Int), V.str z, optV (worthL ls g i z)]) ht
    have e4 : upd H3 t (.tup [V.int (i : Int), V.str z, optV (worthL ls g i z)]) t = some (.tup [V.int (i : Int), V.str z, optV (worthL ls g i z)]) := upd_same
    generalize upd H3 t (.tup [V.int (i : Int), V.str z, optV (worthL ls g i z)]) = H4 at S4 e4 ⊢
    have hL4 := hL3.same S4
    have S14 := S1.trans (S2.trans (S3.trans S4))
    have he4 := S14 _ _ he
    walk_at "wp"
    refine ⟨_, he4, by rw [hw.length]; exact Nat.lt_of_le_of_lt hds (by decide), ?_⟩
    have hL5 := hL4.push (d := some (i, z, worthL ls g i z)) he4 ⟨t, rfl, e4⟩
    refine ⟨hL5.isObj, p, L, D, E, ls, g, _, i, z, o, rfl, hL5, hi, hz, ho, fun H6 r bs cs S6 hL6 hr6 e6 a1 a2 a3 a4 => ?_⟩
    have hbut := but_upd (S := [L, D, E]) (H := H4) (a := E) (o := .lst (ws ++ [V.ref t])) (by simp)
    rw [hbut] at S6
    refine q H6 r bs cs ((but_mono S14).trans S6) hL6 ?_ e6 a1 a2 a3 a4
    cases e : H r with
    | none => rfl
    | some ob =>
      by_cases hm : r = E
      · subst hm
        rw [upd_same] at hr6
        cases hr6
      · rw [upd_ne hm, S14 _ _ e] at hr6
        cases hr6
abbrev s_Ledger_back : Stmt := inClass (top 75) 11
theorem sc_Ledger_back : FnScope ["self", "deed", "day", "part", "number"] ["self"] (defScope s_Ledger_back) := ⟨rfl, rfl, rfl, by decide +kernel, rfl, by decide +kernel, by decide +kernel⟩
def spLBack (K : PySem.W.Frag) (C : Addr) : Sp := fun vs H Q _ => ∃ p L D E ls g ds, ∃ (i : Nat) (s : Str) (o : Option Int), vs = [.ref p] ∧ Led C H p L D E ls g (ds ++ [some (i, s, o)]) ∧ i < ls.length ∧ partB s = true ∧ worthB s o = true ∧
  ∀ (H' : Hp) (r : Addr) (bs cs : List Int), Same (but [L, D, E] H) (but [L, D, E] H') → Led C H' p L D E (setLs ls i s o) (setGd g i s o) ds → H r = none → H' r = some (.lst ((othersL bs cs).map V.int)) →
    bs.length = ls.length + 1 → IsRow g (rowF ls) (rowF bs) ls.length → cs.length = ls.length + 1 → IsRow (setGd g i s o) (rowF (setLs ls i s o)) (rowF cs) ls.length → Q (.ref r) H'
theorem ok_Ledger_back {f C : Addr} {fd : FuncData} (F : Fun K "back" "Ledger.back" s_Ledger_back f fd) (T : LTxt K C) (T_set_part : Met P w K mg base 11 C "set_part" (spLSet K C) []) : FnOk P w K mg base CX0 12 f fd ["self"] (spLBack K C) := by
  refine F.ok sc_Ledger_back (fun vs H Q E h => ?_) (fun cdv A outer s H vs Q E hr h => ?_)
  · obtain ⟨_, _, _, _, _, _, _, _, _, _, rfl, _⟩ := h
    rfl
  · obtain ⟨p, L, D, E, ls, g, ds, i, z, o, rfl, hL, hi, hz, ho, q⟩ := h
    refine ⟨_, (pss_cons (ps_if (pt_not (pt_tru (pe_fld (pv 0) rfl))) (pss_one ps_never) pss_nil)
 (pss_cons (ps_set (i := 1) sc_Ledger_back.nd rfl (Or.inl rfl) (pe_bm0 PySem.F.plainAttrs_list PySem.F.slot_list_pop PySem.F.type_list_pop mt_pop (pe_fld (pv 0) rfl)))
 (pss_cons (ps_if (pt_cmpR op_isN (pv 1) pe_non (nomark _)) (pss_cons (ps_expr (pe_bm0 PySem.F.plainAttrs_list PySem.F.slot_list_pop PySem.F.type_list_pop mt_pop (pe_fld (pv 0) rfl)))
 (pss_cons (ps_expr (pe_bm0 PySem.F.plainAttrs_list PySem.F.slot_list_pop PySem.F.type_list_pop mt_pop (pe_fld (pv 0) rfl)))
 (pss_one (ps_ret pe_non)))) pss_nil)
 (pss_cons (ps_asg (pv 1) (pg_tup rfl (pgs_cons (pg_name (i := 2) sc_Ledger_back.nd rfl (Or.inl rfl)) (pgs_cons (pg_name (i := 3) sc_Ledger_back.nd rfl (Or.inl rfl)) (pgs_cons (pg_name (i := 4) sc_Ledger_back.nd rfl (Or.inl rfl)) pgs_nil)))))
 (pss_one (ps_ret (pe_mt T_set_part hr (by omega) (pv 0) (pa_cons (pv 2) (pa_cons (pv 3) (pa_cons (pv 4) pa_nil)))))))))), ?_⟩
    obtain ⟨us, v, he, hv, hL2⟩ := hL.pop
    walk_at "wp"
    refine hL.fDeeds T ?_
    walk_at "wp"
    refine ⟨true, .inl ⟨_, SqL.of he, by simp⟩, ?_⟩
    rw [if_neg (by decide)]
    refine hL.fDeeds T ?_
    obtain ⟨t, rfl, ht⟩ := hv
    refine ⟨.inl ⟨rfl, _, SqL.of he⟩, E, _, V.ref t, rfl, rfl, he, by simp, ?_⟩
    rw [List.dropLast_concat]
    walk_at "wp"
    have ht2 : upd H E (.lst us) t = some (.tup [.int (i : Int), .str z, optV o]) := by
      rw [upd_ne (fun y => by rw [y, he] at ht; cases ht)]
      exact ht
    have hbut := but_upd (S := [L, D, E]) (H := H) (a := E) (o := .lst us) (by simp)
    have hnone : ∀ r, upd H E (.lst us) r = none → H r = none := fun r hr => by
      by_cases hm : r = E
      · subst hm
        rw [upd_same] at hr
        cases hr
      · rw [upd_ne hm] at hr
        exact hr
    generalize upd H E (.lst us) = H1 at hL2 ht2 hbut hnone ⊢
    refine ⟨_, SqT.of ht2, rfl, ?_⟩
    walk_at "wp"
    refine ⟨hL2.isObj, p, L, D, E, ls, g, ds, i, z, o, rfl, hL2, hi, hz, ho, fun H6 r bs cs S6 hL6 hr6 e6 a1 a2 a3 a4 => ?_⟩
    rw [hbut] at S6
    exact q H6 r bs cs S6 hL6 (hnone r hr6) e6 a1 a2 a3 a4
theorem fne1 : ¬ (("lights" : Str) = "days") := by decide +kernel
theorem fne2 : ¬ (("lights" : Str) = "life") := by decide +kernel
theorem fne3 : ¬ (("days" : Str) = "life") := by decide +kernel
theorem fne4 : ¬ (("lights" : Str) = "deeds") := by decide +kernel
theorem fne5 : ¬ (("days" : Str) = "deeds") := by decide +kernel
theorem fne6 : ¬ (("life" : Str) = "deeds") := by decide +kernel
theorem putL1 {v : V} : putF "lights" v [] = [(("lights" : Str), v)] := rfl
theorem putL2 {v w : V} : putF "days" w (putF "lights" v []) = [(("lights" : Str), v), ("days", w)] := by
  rw [putL1]
  show (if ("lights" : Str) = "days" then _ else _) = _
  rw [if_neg fne1]
  rfl
theorem putL3 {v w u : V} : putF "life" u (putF "days" w (putF "lights" v [])) = [(("lights" : Str), v), ("days", w), ("life", u)] := by
  rw [putL2]
  show (if ("lights" : Str) = "life" then _ else _ :: (if ("days" : Str) = "life" then _ else _)) = _
  rw [if_neg fne2, if_neg fne3]
  rfl
theorem putL4 {L D E : Addr} {u : V} : putF "deeds" (.ref E) (putF "life" u (putF "days" (.ref D) (putF "lights" (.ref L) []))) = lf L D E u := by
  rw [putL3]
  show (if ("lights" : Str) = "deeds" then _ else _ :: (if ("days" : Str) = "deeds" then _ else _ :: (if ("life" : Str) = "deeds" then _ else _))) = _
  rw [if_neg fne4, if_neg fne5, if_neg fne6]
  rfl
theorem day_tups {H : Hp} : ∀ {xs : List V} {ys : List Day}, TkAll H xs (ys.map dayD) → TkAll (tupsOf H) xs (ys.map dayD)
  | xs, [], h0 => by
    have h : TkAll H xs [] := h0
    cases h
    exact .nil
  | xs, d :: ys, h0 => by
    have h : TkAll H xs (dayD d :: ys.map dayD) := h0
    cases h with
    | cons hd t =>
      refine .cons ?_ (day_tups t)
      have hd : Tk H _ (.tuple [.int d.want, .int d.loaf, .int d.keep, optD d.fine]) := hd
      cases hd with
      | tup ht hta =>
        cases hta with
        | cons t1 hta => cases hta with
        | cons t2 hta => cases hta with
        | cons t3 hta => cases hta with
        | cons t4 hta =>
        cases hta
        cases t1; cases t2; cases t3
        have e := t4.opt
        subst e
        exact .tup (tupsOf_at ht) (.cons (.int _) (.cons (.int _) (.cons (.int _) (.cons (Tk.optV _) .nil))))
theorem tk_intsV {H : Hp} : ∀ {xs : List V} {ns : List Int}, TkAll H xs (ns.map PyData.int) → xs = ns.map V.int
  | _, [], .nil => rfl
  | _, n :: r, .cons (.int _) t => by rw [tk_intsV t]; rfl
theorem tk_bak1 {H : Hp} {x : V} {ls : List Int} {g : Good} (h : Tk H x (bakD ⟨ls, none, [g]⟩)) : ∃ ta al ga tg ad xs, x = .ref ta ∧ H ta = some (.tup [.ref al, .non, .ref ga]) ∧ H al = some (.lst (ls.map V.int)) ∧ H ga = some (.lst [.ref tg]) ∧ H tg = some (.tup [.ref ad, optV g.life]) ∧ H ad = some (.lst xs) ∧ TkAll (tupsOf H) xs (g.days.map dayD) := by
  have h : Tk H x (.tuple [.list (ls.map PyData.int), .none, .list [.tuple [.list (g.days.map dayD), optD g.life]]]) := h
  cases h with
  | tup ht hta =>
    cases hta with
    | cons t1 hta => cases hta with
    | cons t2 hta => cases hta with
    | cons t3 hta =>
    cases hta
    cases t2
    cases t1 with
    | lst hl hla =>
    cases t3 with
    | lst hg hga =>
    cases hga with
    | cons u1 hga =>
    cases hga
    cases u1 with
    | tup hu hua =>
    cases hua with
    | cons w1 hua => cases hua with
    | cons w2 hua =>
    cases hua
    have e := w2.opt
    subst e
    cases w1 with
    | lst hd hda =>
    have hxl := tk_intsV hla
    subst hxl
    exact ⟨_, _, _, _, _, _, rfl, ht, hl, hg, hu, hd, day_tups hda⟩
abbrev s_Ledger_init : Stmt := inClass (top 75) 0
theorem sc_Ledger_init : FnScope ["self", "bakery", "lights", "bound", "goods", "days", "life"] ["self", "bakery"] (defScope s_Ledger_init) := ⟨rfl, rfl, rfl, by decide +kernel, rfl, by decide +kernel, by decide +kernel⟩
def spLInit (K : PySem.W.Frag) (C : Addr) : Sp := fun vs H Q _ => ∃ (H0 : Hp) (p dx : Addr) (x : V) (ls : List Int) (g : Good), vs = [.ref p, x] ∧ Same H0 H ∧ H0 p = none ∧ H p = some (.ins C dx []) ∧ Tk (H0) x (bakD ⟨ls, none, [g]⟩) ∧ bakB (bakD ⟨ls, none, [g]⟩) = true ∧
  ∀ (H' : Hp) (L D E : Addr), Same H0 H' → H0 L = none → H0 D = none → H0 E = none → Led C H' p L D E ls g [] → Q .non H'
theorem ok_Ledger_init {f C : Addr} {fd : FuncData} (F : Fun K "__init__" "Ledger.__init__" s_Ledger_init f fd) (B : Bi mg) (T : LTxt K C) (D_look_at_plain : Def P w K mg base "look_at_plain" 8 ["bakery"] (spPlain K .non)) : FnOk P w K mg base CX0 9 f fd ["self", "bakery"] (spLInit K C) := by
  refine F.ok sc_Ledger_init (fun vs H Q E h => ?_) (fun cdv A outer s H vs Q E hr h => ?_)
  · obtain ⟨_, _, _, _, _, _, rfl, _⟩ := h
    rfl
  · obtain ⟨H0, p, dx, x, ls, g, rfl, s0, p0, hp, hx, hb, q⟩ := h
    refine ⟨_, (pss_cons (ps_expr (pe_callD D_look_at_plain hr (by rfl) (pa_cons (pv 1) pa_nil)))
 (pss_cons (ps_asg (pv 1) (pg_tup rfl (pgs_cons (pg_name (i := 2) sc_Ledger_init.nd rfl (Or.inl rfl)) (pgs_cons (pg_name (i := 3) sc_Ledger_init.nd rfl (Or.inl rfl)) (pgs_cons (pg_name (i := 4) sc_Ledger_init.nd rfl (Or.inl rfl)) pgs_nil)))))
 (pss_cons (ps_asg (pe_ix ix_list (pv 4) pe_int (fun _ _ => rfl)) (pg_tup rfl (pgs_cons (pg_name (i := 5) sc_Ledger_init.nd rfl (Or.inl rfl)) (pgs_cons (pg_name (i := 6) sc_Ledger_init.nd rfl (Or.inl rfl)) pgs_nil))))
 (pss_cons (ps_fld (pv 0) (pe_callTy call_listOf (by rfl) B.list (by decide +kernel) (pa_cons (pv 2) pa_nil)) rfl)
 (pss_cons (ps_fld (pv 0) (pe_callTy call_listOf (by rfl) B.list (by decide +kernel) (pa_cons (pv 5) pa_nil)) rfl)
 (pss_cons (ps_fld (pv 0) (pv 6) rfl)
 (pss_one (ps_fld (pv 0) (pe_lst pa_nil) rfl)))))))), ?_⟩
    walk_at "wp"
    have hxH : Th K H x (bakD ⟨ls, none, [g]⟩) := (hx.same s0).th
    refine ⟨x, ⟨ls, none, [g]⟩, rfl, hxH, hb, rfl, rfl, fun H1 S1 => ?_⟩
    have s01 := s0.trans S1
    have hp1 := S1 _ _ hp
    obtain ⟨ta, al, ga, tg, ad, xs, rfl, ht, hl, hga, htg, hsd, hda⟩ := tk_bak1 hx
    walk_at "wp"
    refine ⟨_, SqT.of (s01 _ _ ht), rfl, ?_⟩
    walk_at "wp"
    refine ⟨_, _, SqL.of (s01 _ _ hga), atI_nat (j := 0) rfl, ?_⟩
    walk_at "wp"
    refine ⟨_, SqT.of (s01 _ _ htg), rfl, ?_⟩
    walk_at "wp"
    have keep : ∀ {G G' : Hp} {o : HO} {ob : HO} {q : Addr}, G q = none → q ≠ p → (∀ b y, b ≠ p → G b = some y → upd (upd G q o) p ob b = some y) := fun hq hqp b y hb e => by
      rw [upd_ne hb, upd_ne (fun z => by rw [z, hq] at e; cases e)]
      exact e
    refine ⟨_, .inl (SqL.of (s01 _ _ hl)), fun L h1 => ?_⟩
    have nL : L ≠ p := fun z => by rw [z, hp1] at h1; cases h1
    refine ⟨p, C, dx, [], rfl, by rw [upd_ne nL.symm]; exact hp1, T.cl, T.nL, by decide, ?_⟩
    have k2 := keep (G := H1) (G' := H1) (o := .lst (ls.map V.int)) (ob := .ins C dx (putF "lights" (V.ref L) [])) h1 nL
    have p2 : upd (upd H1 L (.lst (ls.map V.int))) p (.ins C dx (putF "lights" (V.ref L) [])) p = some (.ins C dx (putF "lights" (V.ref L) [])) := upd_same
    have l2 : upd (upd H1 L (.lst (ls.map V.int))) p (.ins C dx (putF "lights" (V.ref L) [])) L = some (.lst (ls.map V.int)) := by rw [upd_ne nL, upd_same]
    generalize upd (upd H1 L (.lst (ls.map V.int))) p (.ins C dx (putF "lights" (V.ref L) [])) = H2 at k2 p2 l2 ⊢
    have k02 : ∀ b y, H0 b = some y → H2 b = some y := fun b y e => k2 b y (fun z => by rw [z, p0] at e; cases e) (s01 _ _ e)
    refine ⟨_, .inl (SqL.of (k02 _ _ hsd)), fun D h3 => ?_⟩
    have nD : D ≠ p := fun z => by rw [z, p2] at h3; cases h3
    have nLD : L ≠ D := fun z => by rw [← z, l2] at h3; cases h3
    refine ⟨p, C, dx, _, rfl, by rw [upd_ne nD.symm]; exact p2, T.cl, T.nD, by rw [putL1]; show 1 < 1000; decide, ?_⟩
    have k4 := keep (G := H2) (G' := H2) (o := .lst xs) (ob := .ins C dx (putF "days" (V.ref D) (putF "lights" (V.ref L) []))) h3 nD
    have p4 : upd (upd H2 D (.lst xs)) p (.ins C dx (putF "days" (V.ref D) (putF "lights" (V.ref L) []))) p = some (.ins C dx (putF "days" (V.ref D) (putF "lights" (V.ref L) []))) := upd_same
    have d4 : upd (upd H2 D (.lst xs)) p (.ins C dx (putF "days" (V.ref D) (putF "lights" (V.ref L) []))) D = some (.lst xs) := by rw [upd_ne nD, upd_same]
    generalize upd (upd H2 D (.lst xs)) p (.ins C dx (putF "days" (V.ref D) (putF "lights" (V.ref L) []))) = H4 at k4 p4 d4 ⊢
    refine ⟨p, C, dx, _, rfl, p4, T.cl, T.nF, by rw [putL2]; show 2 < 1000; decide, ?_⟩
    have k5 : ∀ b y, b ≠ p → H4 b = some y → upd H4 p (.ins C dx (putF "life" (optV g.life) (putF "days" (V.ref D) (putF "lights" (V.ref L) [])))) b = some y := fun b y hb e => by rw [upd_ne hb]; exact e
    have p5 : upd H4 p (.ins C dx (putF "life" (optV g.life) (putF "days" (V.ref D) (putF "lights" (V.ref L) [])))) p = some (.ins C dx (putF "life" (optV g.life) (putF "days" (V.ref D) (putF "lights" (V.ref L) [])))) := upd_same
    generalize upd H4 p (.ins C dx (putF "life" (optV g.life) (putF "days" (V.ref D) (putF "lights" (V.ref L) [])))) = H5 at k5 p5 ⊢
    have l5 := k5 _ _ nL (k4 _ _ nL l2)
    have d5 := k5 _ _ nD d4
    refine ⟨Nat.zero_le _, fun E h6 => ?_⟩
    have nE : E ≠ p := fun z => by rw [z, p5] at h6; cases h6
    have nLE : L ≠ E := fun z => by rw [← z, l5] at h6; cases h6
    have nDE : D ≠ E := fun z => by rw [← z, d5] at h6; cases h6
    refine ⟨p, C, dx, _, rfl, by rw [upd_ne nE.symm]; exact p5, T.cl, T.nE, by rw [putL3]; show 3 < 1000; decide, ?_⟩
    have k7 := keep (G := H5) (G' := H5) (o := .lst []) (ob := .ins C dx (putF "deeds" (V.ref E) (putF "life" (optV g.life) (putF "days" (V.ref D) (putF "lights" (V.ref L) []))))) h6 nE
    have k07 : ∀ b y, H0 b = some y → _ := fun b y e => k7 b y (fun z => by rw [z, p0] at e; cases e) (k5 b y (fun z => by rw [z, p0] at e; cases e) (k4 b y (fun z => by rw [z, p0] at e; cases e) (k02 _ _ e)))
    have none0 : ∀ b, (∀ y, H0 b ≠ some y) → H0 b = none := fun b h => by
      cases e : H0 b with
      | none => rfl
      | some y => exact absurd e (h y)
    refine q _ L D E k07 (none0 _ fun y e => by rw [s01 _ _ e] at h1; cases h1) (none0 _ fun y e => by rw [k02 _ _ e] at h3; cases h3) (none0 _ fun y e => by rw [k5 _ _ (fun z => by rw [z, p0] at e; cases e) (k4 _ _ (fun z => by rw [z, p0] at e; cases e) (k02 _ _ e))] at h6; cases h6) ?_
    exact ⟨⟨dx, by rw [upd_same, putL4]⟩, k7 _ _ nL l5, ⟨xs, k7 _ _ nD d5, (hda.same fun b o e => by
        obtain ⟨e', ys, rfl⟩ := tupsOf_is e
        exact tupsOf_at (k07 _ _ e'))⟩, ⟨[], by rw [upd_ne nE, upd_same], .nil⟩, hb, nLD, nLE, nDE⟩
end
end Bk

namespace Bk
open PySem PySem.Spec PyProof.Rows L2
open C8 (Met pe_mt pe_mt0)
local macro_rules | `(tactic| walk_at "wp") => `(tactic| try simp only [iZipA_eq, rZipA_r, iEnumZip_eq, rEnumZip_r, tFld_eq, tMeth_eq, rTIx_r, tTru, tScT2, rSetL_r, rSetOf2_r, rSorDT_r, rSetD, tDGet2, tDGet, tDNewT, cxW, rExtend_r, rSortU_r, rSetOf_r, rSortedSet_r, rNinr_r, rNeN_r, rCatL_r, rSlT_r, rListOf_r, rIsB_b, rNotB_b, tFmtO, tJs, tOst, tCallS, WE, tRaise2, rOne_i, rSorD_r, tDNewK, Int.zero_add, tNever, tFor_eq, tLc_eq, iList, iTup, iRng1_eq, rRng1_i, iRng2_eq, rRng2_i, iEnum_eq, rEnum_r, iZip_eq, rZip_r, tSl, tPart, tNoPart, rSlL_r, rCat_r, rIn_r, rNin_r, rRepr_r, iRevR, rMin_r, rShr_i, rOdd_i, rSetL_r, gSub, rRg1_i, rRg2_i, rInr_r, tAug, ipI_ii, tLstRg, tRg1, tRg2, gTup_r, gUnl_r, rInt1_b, rInt1_i, rRep_r, tStep_r, scal, tSeq, tNext, tAsg, tRet, tRetN, tIfS, tDrop, tCB, tCons, tNil, tVar, tOp, tUn, tC, rU_i, rI_ii, rI0_ii, rEq, rNe, tTest, tB, tAnd, tOr, tNot, tAndV, tOrV, tNotV, tIf, tChain, tLst, tTup, tBM, tBM0, rAppend_r, rIxL_r, rIxT_r, rMx_ii, rMn_ii, rLnL_r, rLnT_r, rIsD_int, rIsD_bool, rIsD_list, rIsD_tuple, tCall, gName, gNil_n, gCons_c, cxK, L2.start, List.map, List.replicate, List.length_cons, List.length_nil, List.cons_append, List.nil_append, List.append_nil, List.getElem?_cons_zero, List.getElem?_cons_succ, Option.some.injEq, exists_eq_left', exists_eq_left, V.int.injEq, V.bl.injEq, V.str.injEq, V.ref.injEq, List.cons.injEq, and_true, true_and, and_self, List.set, wipe, rAll_r, rSum_r, reduceCtorEq, decide_true, decide_false, reduceIte, ite_true, ite_false, if_true, if_false, Bool.false_eq_true, Bool.not_true, Bool.not_false])
local macro_rules | `(tactic| walk_at "shaped") => `(tactic| (simp only [SeqAt.shaped, PyData.canLay0, PyData.canLayAll0, PyData.depth, PyData.depthAll]; rfl))
local macro_rules | `(tactic| walk_at "lay") => `(tactic| (simp only [PyData.canLay0, PyData.canLayAll0]; rfl))
local macro_rules | `(tactic| walk_at "wg") => `(tactic| try simp only [gName, gTup_r, gCons_c, gNil_n, cxK, List.set, List.cons.injEq, and_true, true_and, exists_eq_left', exists_eq_left, List.length_cons, List.length_nil])
section
variable {P : Program} {w : World} {K : PySem.W.Frag} {mg : Str → Option Value} {base : Heap}
abbrev s_Ledger_add : Stmt := inClass (top 75) 9
theorem sc_Ledger_add : FnScope ["self", "light", "day"] ["self", "light", "day"] (defScope s_Ledger_add) := ⟨rfl, rfl, rfl, by decide +kernel, rfl, by decide +kernel, by decide +kernel⟩
def spLAdd (K : PySem.W.Frag) (C : Addr) : Sp := fun vs H Q _ => ∃ p L D E ls g ds, ∃ (z : Int) (t : Addr) (d : Day), vs = [.ref p, .int z, .ref t] ∧ Led C H p L D E ls g ds ∧ ds.length ≤ 1000 ∧ H t = some (.tup [.int d.want, .int d.loaf, .int d.keep, optV d.fine]) ∧ numD (.int z) = true ∧ dayB (dayD d) = true ∧ ls.length < 40 ∧
  ∀ (H' : Hp), Same (but [L, D, E] H) (but [L, D, E] H') → Led C H' p L D E (ls ++ [z]) (addG g d) (ds ++ [none]) → Q .non H'
theorem ok_Ledger_add {f C : Addr} {fd : FuncData} {t1 : Tok} (F : Fun K "add" "Ledger.add" s_Ledger_add f fd) (B : Bi mg) (T : LTxt K C) (M_MOST_DAYS : mg "MOST_DAYS" = some (.int 40 t1)) (D_is_number : Def P w K mg base "is_number" 2 ["thing"] (spNum K)) (D_is_day : Def P w K mg base "is_day" 3 ["thing"] (spPred K dayB)) : FnOk P w K mg base CX0 4 f fd ["self", "light", "day"] (spLAdd K C) := by
  refine F.ok sc_Ledger_add (fun vs H Q E h => ?_) (fun cdv A outer s H vs Q E hr h => ?_)
  · obtain ⟨_, _, _, _, _, _, _, _, _, _, rfl, _⟩ := h
    rfl
  · obtain ⟨p, L, D, E, ls, g, ds, z, t, d, rfl, hL, hds, ht, hz, hd, hn, q⟩ := h
    refine ⟨_, (pss_cons (ps_if (pt_not (pt_val (pe_callD D_is_number hr (by rfl) (pa_cons (pv 1) pa_nil)))) (pss_one ps_never) pss_nil)
 (pss_cons (ps_if (pt_not (pt_val (pe_callD D_is_day hr (by rfl) (pa_cons (pv 2) pa_nil)))) (pss_one ps_never) pss_nil)
 (pss_cons (ps_if (pt_cmpR op_ge (pe_callB call_lnL (by rfl) B.len (by decide +kernel) (pa_cons (pe_fld (pv 0) rfl) pa_nil)) (pe_globI rfl M_MOST_DAYS) (nomark _)) (pss_one ps_never) pss_nil)
 (pss_cons (ps_expr (pe_bm PySem.F.plainAttrs_list PySem.F.slot_list_append PySem.F.type_list_append mt_append (pe_fld (pv 0) rfl) (pa_cons (pv 1) pa_nil)))
 (pss_cons (ps_expr (pe_bm PySem.F.plainAttrs_list PySem.F.slot_list_append PySem.F.type_list_append mt_append (pe_fld (pv 0) rfl) (pa_cons (pv 2) pa_nil)))
 (pss_one (ps_expr (pe_bm PySem.F.plainAttrs_list PySem.F.slot_list_append PySem.F.type_list_append mt_append (pe_fld (pv 0) rfl) (pa_cons pe_non pa_nil))))))))), ?_⟩
    obtain ⟨xs, hx, htk⟩ := hL.da
    obtain ⟨ws, hw, hws⟩ := hL.de
    obtain ⟨k1, k2, k3⟩ := hL.day1
    have hxl := htk.length
    rw [List.length_map] at hxl
    walk_at "wp"
    refine ⟨.int z, .int z, rfl, .int z, ?_⟩
    rw [hz]
    walk_at "wp"
    have hth : Th K H (.ref t) (dayD d) := .tup (SqT.of ht) (.cons (.int _) (.cons (.int _) (.cons (.int _) (.cons (Th.optV _) .nil))))
    refine ⟨_, _, rfl, hth, ?_⟩
    rw [hd]
    walk_at "wp"
    refine fun H1 S1 => ?_
    have hL1 := hL.same S1
    have hx1 := S1 _ _ hx
    have hw1 := S1 _ _ hw
    refine hL1.fLights T ?_
    walk_at "wp"
    refine ⟨_, SqL.of hL1.li, ?_⟩
    rw [List.length_map, decide_eq_false (show ¬ (40 : Int) ≤ (ls.length : Int) by omega)]
    walk_at "wp"
    have hfin := hL1.add hx1 hw1 (S1 _ _ ht) hz hd hn
    have eL : (ls.map V.int) ++ [V.int z] = (ls ++ [z]).map V.int := by rw [List.map_append]; rfl
    have e2 : upd H1 L (.lst ((ls ++ [z]).map V.int)) D = some (.lst xs) := by rw [upd_ne hL1.ld.symm]; exact hx1
    have e3 : upd (upd H1 L (.lst ((ls ++ [z]).map V.int))) D (.lst (xs ++ [.ref t])) E = some (.lst ws) := by rw [upd_ne hL1.dE.symm, upd_ne hL1.le.symm]; exact hw1
    obtain ⟨dx, ho⟩ := hL1.obj
    have npL : p ≠ L := fun q => by rw [q, hL1.li] at ho; cases ho
    have npD : p ≠ D := fun q => by rw [q, hx1] at ho; cases ho
    refine hL1.fLights T ⟨.inl ⟨rfl, _, SqL.of hL1.li⟩, ?_⟩
    walk_at "wp"
    refine ⟨_, hL1.li, by rw [List.length_map]; exact Nat.lt_of_le_of_lt (show _ ≤ 1000 by omega) (by decide), ?_⟩
    rw [eL]
    refine ⟨_, _, dx, _, _, rfl, by rw [upd_ne npL]; exact ho, T.cl, T.nD, lf_days, .inl ⟨rfl, _, SqL.of e2⟩, ?_⟩
    walk_at "wp"
    refine ⟨_, e2, by rw [hxl]; exact Nat.lt_of_le_of_lt (show _ ≤ 1000 by omega) (by decide), ?_⟩
    refine ⟨_, _, dx, _, _, rfl, by rw [upd_ne npD, upd_ne npL]; exact ho, T.cl, T.nE, lf_deeds, .inl ⟨rfl, _, SqL.of e3⟩, ?_⟩
    walk_at "wp"
    refine ⟨_, e3, by rw [hws.length]; exact Nat.lt_of_le_of_lt hds (by decide), ?_⟩
    refine q _ ?_ hfin
    rw [but_upd (by simp), but_upd (by simp), but_upd (by simp)]
    exact but_mono S1
theorem FnOk.or {P : Program} {w : World} {K : PySem.W.Frag} {mg : Str → Option Value} {base : Heap} {CX : CXT} {k : Nat} {f : Addr} {fd : FuncData} {ps : List Str} {s1 s2 : Sp} (F1 : FnOk P w K mg base CX k f fd ps s1) (F2 : FnOk P w K mg base CX k f fd ps s2) : FnOk P w K mg base CX k f fd ps (fun vs H Q E => s1 vs H Q E ∨ s2 vs H Q E) :=
  ⟨fun vs H Q E h => h.elim (F1.len vs H Q E) (F2.len vs H Q E), fun A outer s H args us vs Q E hr h0 hb hv h => h.elim (F1.run A outer s H args us vs Q E hr h0 hb hv) (F2.run A outer s H args us vs Q E hr h0 hb hv)⟩
def spLBack2 (K : PySem.W.Frag) (C : Addr) : Sp := fun vs H Q _ => ∃ p L D E ls g ds, vs = [.ref p] ∧ Led C H p L D E ls g (ds ++ [none]) ∧ 2 ≤ ls.length ∧
  ∀ (H' : Hp), Same (but [L, D, E] H) (but [L, D, E] H') → Led C H' p L D E ls.dropLast (dropG g) ds → Q .non H'
def spLBackA (K : PySem.W.Frag) (C : Addr) : Sp := fun vs H Q E => spLBack K C vs H Q E ∨ spLBack2 K C vs H Q E
theorem ok_Ledger_back2 {f C : Addr} {fd : FuncData} (F : Fun K "back" "Ledger.back" s_Ledger_back f fd) (T : LTxt K C) (T_set_part : Met P w K mg base 11 C "set_part" (spLSet K C) []) : FnOk P w K mg base CX0 12 f fd ["self"] (spLBack2 K C) := by
  refine F.ok sc_Ledger_back (fun vs H Q E h => ?_) (fun cdv A outer s H vs Q E hr h => ?_)
  · obtain ⟨_, _, _, _, _, _, _, rfl, _⟩ := h
    rfl
  · obtain ⟨p, L, D, E, ls, g, ds, rfl, hL, hn, q⟩ := h
    refine ⟨_, (pss_cons (ps_if (pt_not (pt_tru (pe_fld (pv 0) rfl))) (pss_one ps_never) pss_nil)
 (pss_cons (ps_set (i := 1) sc_Ledger_back.nd rfl (Or.inl rfl) (pe_bm0 PySem.F.plainAttrs_list PySem.F.slot_list_pop PySem.F.type_list_pop mt_pop (pe_fld (pv 0) rfl)))
 (pss_cons (ps_if (pt_cmpR op_isN (pv 1) pe_non (nomark _)) (pss_cons (ps_expr (pe_bm0 PySem.F.plainAttrs_list PySem.F.slot_list_pop PySem.F.type_list_pop mt_pop (pe_fld (pv 0) rfl)))
 (pss_cons (ps_expr (pe_bm0 PySem.F.plainAttrs_list PySem.F.slot_list_pop PySem.F.type_list_pop mt_pop (pe_fld (pv 0) rfl)))
 (pss_one (ps_ret pe_non)))) pss_nil)
 (pss_cons (ps_asg (pv 1) (pg_tup rfl (pgs_cons (pg_name (i := 2) sc_Ledger_back.nd rfl (Or.inl rfl)) (pgs_cons (pg_name (i := 3) sc_Ledger_back.nd rfl (Or.inl rfl)) (pgs_cons (pg_name (i := 4) sc_Ledger_back.nd rfl (Or.inl rfl)) pgs_nil)))))
 (pss_one (ps_ret (pe_mt T_set_part hr (by omega) (pv 0) (pa_cons (pv 2) (pa_cons (pv 3) (pa_cons (pv 4) pa_nil)))))))))), ?_⟩
    obtain ⟨us, xs, he, hx, hne, hfin⟩ := hL.unadd hn
    obtain ⟨dx, ho⟩ := hL.obj
    have npE : p ≠ E := fun q => by rw [q, he] at ho; cases ho
    have npL : p ≠ L := fun q => by rw [q, hL.li] at ho; cases ho
    have npD : p ≠ D := fun q => by rw [q, hx] at ho; cases ho
    have e2 : upd H E (.lst us) L = some (.lst (ls.map V.int)) := by rw [upd_ne hL.le]; exact hL.li
    have eL : (ls.map V.int).dropLast = ls.dropLast.map V.int := by rw [List.dropLast_eq_take, List.dropLast_eq_take, List.map_take, List.length_map]
    have e3 : upd (upd H E (.lst us)) L (.lst (ls.dropLast.map V.int)) D = some (.lst xs) := by rw [upd_ne hL.ld.symm, upd_ne hL.dE]; exact hx
    walk_at "wp"
    refine hL.fDeeds T ⟨true, .inl ⟨_, SqL.of he, by simp⟩, ?_⟩
    rw [if_neg (by decide)]
    refine hL.fDeeds T ⟨.inl ⟨rfl, _, SqL.of he⟩, E, _, .non, rfl, rfl, he, by simp, ?_⟩
    rw [List.dropLast_concat]
    walk_at "wp"
    have hlast : ∀ {l : List V}, l ≠ [] → ∃ y, l[l.length - 1]? = some y := fun {l} h => ⟨_, List.getElem?_eq_getElem (by have := List.length_pos_iff.mpr h; omega)⟩
    obtain ⟨y1, hy1⟩ := hlast (l := ls.map V.int) (fun h => by have := congrArg List.length h; rw [List.length_map] at this; simp at this; rw [this] at hn; simp at hn)
    obtain ⟨y2, hy2⟩ := hlast hne
    refine ⟨_, _, dx, _, _, rfl, by rw [upd_ne npE]; exact ho, T.cl, T.nL, lf_lights, .inl ⟨rfl, _, SqL.of e2⟩, L, _, y1, rfl, rfl, e2, hy1, ?_⟩
    rw [eL]
    refine ⟨_, _, dx, _, _, rfl, by rw [upd_ne npL, upd_ne npE]; exact ho, T.cl, T.nD, lf_days, .inl ⟨rfl, _, SqL.of e3⟩, D, _, y2, rfl, rfl, e3, hy2, ?_⟩
    refine q _ ?_ hfin
    rw [but_upd (by simp), but_upd (by simp), but_upd (by simp)]
    exact Same.refl _
theorem ok_Ledger_backA {f C : Addr} {fd : FuncData} (F : Fun K "back" "Ledger.back" s_Ledger_back f fd) (T : LTxt K C) (T_set_part : Met P w K mg base 11 C "set_part" (spLSet K C) []) : FnOk P w K mg base CX0 12 f fd ["self"] (spLBackA K C) := FnOk.or (ok_Ledger_back F T T_set_part) (ok_Ledger_back2 F T T_set_part)
end
end Bk

namespace Bk
open PySem PySem.Spec PyProof.Rows L2
open C8 (Met pe_mt pe_mt0)
local macro_rules | `(tactic| walk_at "wp") => `(tactic| try simp only [iRng3_eq, rRng3_i, rNeN_r, iZipA_eq, rZipA_r, iEnumZip_eq, rEnumZip_r, tFld_eq, tMeth_eq, rTIx_r, tTru, tScT2, rSetL_r, rSetOf2_r, rSorDT_r, rSetD, tDGet2, tDGet, tDNewT, cxW, rExtend_r, rSortU_r, rSetOf_r, rSortedSet_r, rNinr_r, rNeN_r, rCatL_r, rSlT_r, rListOf_r, rIsB_b, rNotB_b, tFmtO, tJs, tOst, tCallS, WE, tRaise2, rOne_i, rSorD_r, tDNewK, Int.zero_add, tNever, tFor_eq, tLc_eq, iList, iTup, iRng1_eq, rRng1_i, iRng2_eq, rRng2_i, iEnum_eq, rEnum_r, iZip_eq, rZip_r, tSl, tPart, tNoPart, rSlL_r, rCat_r, rIn_r, rNin_r, rRepr_r, iRevR, rMin_r, rShr_i, rOdd_i, rSetL_r, gSub, rRg1_i, rRg2_i, rInr_r, tAug, ipI_ii, tLstRg, tRg1, tRg2, gTup_r, gUnl_r, rInt1_b, rInt1_i, rRep_r, tStep_r, scal, tSeq, tNext, tAsg, tRet, tRetN, tIfS, tDrop, tCB, tCons, tNil, tVar, tOp, tUn, tC, rU_i, rI_ii, rI0_ii, rEq, rNe, tTest, tB, tAnd, tOr, tNot, tAndV, tOrV, tNotV, tIf, tChain, tLst, tTup, tBM, tBM0, rAppend_r, rIxL_r, rIxT_r, rMx_ii, rMn_ii, rLnL_r, rLnT_r, rIsD_int, rIsD_bool, rIsD_list, rIsD_tuple, tCall, gName, gNil_n, gCons_c, cxK, L2.start, List.map, List.replicate, List.length_cons, List.length_nil, List.cons_append, List.nil_append, List.append_nil, List.getElem?_cons_zero, List.getElem?_cons_succ, Option.some.injEq, exists_eq_left', exists_eq_left, V.int.injEq, V.bl.injEq, V.str.injEq, V.ref.injEq, List.cons.injEq, and_true, true_and, and_self, List.set, wipe, rAll_r, rSum_r, reduceCtorEq, decide_true, decide_false, reduceIte, ite_true, ite_false, if_true, if_false, Bool.false_eq_true, Bool.not_true, Bool.not_false])
local macro_rules | `(tactic| walk_at "shaped") => `(tactic| (simp only [iRng3_eq, rRng3_i, rNeN_r, SeqAt.shaped, PyData.canLay0, PyData.canLayAll0, PyData.depth, PyData.depthAll]; rfl))
local macro_rules | `(tactic| walk_at "lay") => `(tactic| (simp only [iRng3_eq, rRng3_i, rNeN_r, PyData.canLay0, PyData.canLayAll0]; rfl))
local macro_rules | `(tactic| walk_at "wg") => `(tactic| try simp only [gName, gTup_r, gCons_c, gNil_n, cxK, List.set, List.cons.injEq, and_true, true_and, exists_eq_left', exists_eq_left, List.length_cons, List.length_nil])
local macro_rules | `(tactic| walk_at "wr") => `(tactic| simp only [tSeq, tAsg, tDrop, tCallS, tCons, tNil, tVar, WE, cxK, L2.start, List.map, List.replicate, List.length_cons, List.length_nil, List.cons_append, List.nil_append, List.append_nil, List.getElem?_cons_zero, List.getElem?_cons_succ, Option.some.injEq, exists_eq_left', exists_eq_left])
section
variable {P : Program} {w : World} {K : PySem.W.Frag} {mg : Str → Option Value} {base : Heap}
def spLBackN (K : PySem.W.Frag) (C Cb : Addr) : Sp := fun vs H _ E => ∃ p L D E' ls g, vs = [.ref p] ∧ Led C H p L D E' ls g [] ∧ ∀ H', Same H H' → E (.ref Cb) none H'
theorem okN_Ledger_back {f C Cb : Addr} {fd : FuncData} (F : Fun K "back" "Ledger.back" s_Ledger_back f fd) (T : LTxt K C) (E1_NoBack : Err1 K mg "NoBack" Cb) : FnOk P w K mg base (L2.CX P w) 12 f fd ["self"] (spLBackN K C Cb) := by
  refine F.okX sc_Ledger_back (fun vs H Q E h => ?_) (fun cdv A outer s H vs Q E hr h => ?_)
  · obtain ⟨_, _, _, _, _, _, rfl, _⟩ := h
    rfl
  · obtain ⟨p, L, D, E', ls, g, rfl, hL, q⟩ := h
    refine ⟨_, (pss_cons (ps_if (pt_not (pt_tru (pe_fld (pv 0) rfl))) (pss_one (ps_raise1 (W := fun cls d _ H => E cls d H) E1_NoBack rfl (takes_of rfl rfl rfl rfl) (by rfl))) pss_nil) pss_none), ?_⟩
    obtain ⟨ws, he, hws⟩ := hL.de
    cases hws
    walk_at "wp"
    refine hL.fDeeds T ⟨false, .inl ⟨_, SqL.of he, by simp⟩, ?_⟩
    rw [if_pos (by decide)]
    exact q _ (Same.refl _)
def spLBackX (K : PySem.W.Frag) (C Cb : Addr) : Sp := fun vs H Q E => spLBackA K C vs H Q E ∨ spLBackN K C Cb vs H Q E
theorem okX_Ledger_back {f C Cb : Addr} {fd : FuncData} (F : Fun K "back" "Ledger.back" s_Ledger_back f fd) (T : LTxt K C) (E1_NoBack : Err1 K mg "NoBack" Cb) (T_set_part : C8.Met P w K mg base 11 C "set_part" (spLSet K C) []) : FnOk P w K mg base (L2.CX P w) 12 f fd ["self"] (spLBackX K C Cb) := fnOr (fnLift (ok_Ledger_backA F T T_set_part)) (okN_Ledger_back F T E1_NoBack)
end
end Bk

namespace Bk
open PySem PySem.Spec PyProof.Rows L2
open C8 (Met pe_mt pe_mt0)
local macro_rules | `(tactic| walk_at "wp") => `(tactic| try simp only [iZipA_eq, rZipA_r, iEnumZip_eq, rEnumZip_r, tFld_eq, tMeth_eq, rTIx_r, tTru, tScT2, rSetL_r, rSetOf2_r, rSorDT_r, rSetD, tDGet2, tDGet, tDNewT, cxW, rExtend_r, rSortU_r, rSetOf_r, rSortedSet_r, rNinr_r, rNeN_r, rCatL_r, rSlT_r, rListOf_r, rIsB_b, rNotB_b, tFmtO, tJs, tOst, tCallS, WE, tRaise2, rOne_i, rSorD_r, tDNewK, Int.zero_add, tNever, tFor_eq, tLc_eq, iList, iTup, iRng1_eq, rRng1_i, iRng2_eq, rRng2_i, iEnum_eq, rEnum_r, iZip_eq, rZip_r, tSl, tPart, tNoPart, rSlL_r, rCat_r, rIn_r, rNin_r, rRepr_r, iRevR, rMin_r, rShr_i, rOdd_i, rSetL_r, gSub, rRg1_i, rRg2_i, rInr_r, tAug, ipI_ii, tLstRg, tRg1, tRg2, gTup_r, gUnl_r, rInt1_b, rInt1_i, rRep_r, tStep_r, scal, tSeq, tNext, tAsg, tRet, tRetN, tIfS, tDrop, tCB, tCons, tNil, tVar, tOp, tUn, tC, rU_i, rI_ii, rI0_ii, rEq, rNe, tTest, tB, tAnd, tOr, tNot, tAndV, tOrV, tNotV, tIf, tChain, tLst, tTup, tBM, tBM0, rAppend_r, rIxL_r, rIxT_r, rMx_ii, rMn_ii, rLnL_r, rLnT_r, rIsD_int, rIsD_bool, rIsD_list, rIsD_tuple, tCall, gName, gNil_n, gCons_c, cxK, L2.start, List.map, List.replicate, List.length_cons, List.length_nil, List.cons_append, List.nil_append, List.append_nil, List.getElem?_cons_zero, List.getElem?_cons_succ, Option.some.injEq, exists_eq_left', exists_eq_left, V.int.injEq, V.bl.injEq, V.str.injEq, V.ref.injEq, List.cons.injEq, and_true, true_and, and_self, List.set, wipe, rAll_r, rSum_r, reduceCtorEq, decide_true, decide_false, reduceIte, ite_true, ite_false, if_true, if_false, Bool.false_eq_true, Bool.not_true, Bool.not_false])
local macro_rules | `(tactic| walk_at "shaped") => `(tactic| (simp only [SeqAt.shaped, PyData.canLay0, PyData.canLayAll0, PyData.depth, PyData.depthAll]; rfl))
local macro_rules | `(tactic| walk_at "lay") => `(tactic| (simp only [PyData.canLay0, PyData.canLayAll0]; rfl))
local macro_rules | `(tactic| walk_at "wg") => `(tactic| try simp only [gName, gTup_r, gCons_c, gNil_n, cxK, List.set, List.cons.injEq, and_true, true_and, exists_eq_left', exists_eq_left, List.length_cons, List.length_nil])
section
variable {P : Program} {w : World} {K : PySem.W.Frag} {mg : Str → Option Value} {base : Heap}
def spPlaceA (K : PySem.W.Frag) : Sp := fun vs H Q _ => ∃ x d, ∃ n : Nat, vs = [x, .int (n : Int)] ∧ Th K H x d ∧ Q (.bl (plB n d)) H
theorem okA_is_place {f : Addr} {fd : FuncData} (F : Fun K "is_place" "is_place" s_is_place f fd) (D_is_whole : Def P w K mg base "is_whole" 1 ["thing"] (spWhole K)) : FnOk P w K mg base CX0 2 f fd ["thing", "many"] (spPlaceA K) := by
  refine F.ok sc_is_place (fun vs H Q E h => ?_) (fun cdv A outer s H vs Q E hr h => ?_)
  · obtain ⟨_, _, _, rfl, _⟩ := h
    rfl
  · obtain ⟨x, d, n, rfl, hx, q⟩ := h
    refine ⟨_, (pss_one (ps_ret (pe_and (pe_callD D_is_whole hr (by rfl) (pa_cons (pv 0) pa_nil)) (pe_one (pe_chain op_le op_lt pe_int (pv 0) (pv 1)))))), ?_⟩
    walk_at "wp"
    refine ⟨_, _, rfl, hx, ?_⟩
    cases hx with
    | int i =>
      simp only [wholeD]
      walk_at "wp"
      refine ite2 (fun h => qb ?_ q) (fun h => qb ?_ q)
      · simp only [plB, h, Bool.true_and]
      · simp only [plB, Bool.eq_false_iff.mpr h, Bool.false_and]
    | _ =>
      simp only [wholeD]
      walk_at "wp"
      exact q
/-- whether it is the name of a part -/
def partD : PyData → Bool
  | .str s => partB s
  | _ => false
def spPartA (K : PySem.W.Frag) : Sp := fun vs H Q _ => ∃ x d, vs = [x] ∧ Th K H x d ∧ ∀ H', Same H H' → Q (.bl (partD d)) H'
theorem okA_is_part {f : Addr} {fd : FuncData} {A : Addr} {t1 : Tok} (F : Fun K "is_part" "is_part" s_is_part f fd) (B : Bi mg) (Bq : mg "str" = none) (M_LIGHT : mg "LIGHT" = some (.str "light" t1)) (M_PARTS : mg "PARTS" = some (.ref A)) (PT : PartsT K A) : FnOk P w K mg base CX0 1 f fd ["thing"] (spPartA K) := by
  refine F.ok sc_is_part (fun vs H Q E h => ?_) (fun cdv A outer s H vs Q E hr h => ?_)
  · obtain ⟨_, _, rfl, _⟩ := h
    rfl
  · obtain ⟨x, d, rfl, hx, q⟩ := h
    refine ⟨_, (pss_one (ps_ret (pe_and (pe_callB (call_isD .str) (by rfl) B.isinstance (by decide +kernel) (pa_cons (pv 0) (pa_cons (pe_bltn (v := .ty "str") (by rfl) Bq (by decide +kernel) rfl) pa_nil))) (pe_one (pe_or (pe_cmpR op_eq (pv 0) (pe_globS rfl M_LIGHT) (nomark _)) (pe_one (pe_cmpR op_in_seq (pv 0) (pe_globR (by rfl) M_PARTS) (by rfl)))))))), ?_⟩
    walk_at "wp"
    have hx0 := hx
    cases hx with
    | str z =>
      walk_at "wp"
      refine ⟨.str z, .str z, rfl, .str _, true, rfl, ?_⟩
      rw [if_pos rfl]
      walk_at "wp"
      by_cases h1 : z = "light"
      · have e : partD (.str z) = true := by show (decide (z = "light") || decide (z ∈ partsL)) = true; rw [decide_eq_true h1]; rfl
        rw [e] at q
        rw [decide_eq_true (show z = Str.ofString "light" from h1), if_pos rfl]
        exact q _ (Same.refl _)
      · have e0 : partD (.str z) = decide (z ∈ partsL) := by show (decide (z = "light") || decide (z ∈ partsL)) = _; rw [decide_eq_false h1, Bool.false_or]
        rw [e0] at q
        rw [decide_eq_false (show ¬ z = Str.ofString "light" from h1), if_neg (by decide)]
        refine ⟨partsL.map V.str, .inr (PT _), rfl, by decide +kernel, ?_⟩
        have e : inV (V.str z) (partsL.map V.str) = decide (z ∈ partsL) := by
          unfold inV
          rw [List.any_map]
          refine Bool.eq_iff_iff.mpr (List.any_eq_true.trans ?_)
          rw [decide_eq_true_eq]
          constructor
          · rintro ⟨s, hs, he⟩
            have he : eqV (.str s) (.str z) = true := he
            simp only [eqV, decide_eq_true_eq, beq_iff_eq] at he
            rw [← he]
            exact hs
          · exact fun h => ⟨z, h, by show eqV (.str z) (.str z) = true; simp only [eqV, decide_eq_true_eq, beq_iff_eq]⟩
        rw [e]
        exact q _ (Same.refl _)
    | _ =>
      refine ⟨_, _, rfl, hx0, false, rfl, ?_⟩
      rw [if_neg (by decide)]
      exact q _ (Same.refl _)
def noneD : PyData → Bool
  | .none => true
  | _ => false
def worthA (s : Str) (e : PyData) : Bool := numD e || (decide (s = "fine") && noneD e)
def spWorthA (K : PySem.W.Frag) : Sp := fun vs H Q _ => ∃ s y e, vs = [.str s, y] ∧ Th K H y e ∧ ∀ H', Same H H' → Q (.bl (worthA s e)) H'
theorem okA_is_worth {f : Addr} {fd : FuncData} {t1 : Tok} (F : Fun K "is_worth" "is_worth" s_is_worth f fd) (M_FINE : mg "FINE" = some (.str "fine" t1)) (D_is_number : Def P w K mg base "is_number" 2 ["thing"] (spNum K)) : FnOk P w K mg base CX0 3 f fd ["part", "thing"] (spWorthA K) := by
  refine F.ok sc_is_worth (fun vs H Q E h => ?_) (fun cdv A outer s H vs Q E hr h => ?_)
  · obtain ⟨_, _, _, rfl, _⟩ := h
    rfl
  · obtain ⟨z, y, e, rfl, hy, q⟩ := h
    refine ⟨_, (pss_one (ps_ret (pe_or (pe_callD D_is_number hr (by rfl) (pa_cons (pv 1) pa_nil)) (pe_one (pe_and (pe_cmpR op_eq (pv 0) (pe_globS rfl M_FINE) (nomark _)) (pe_one (pe_cmpR op_isN (pv 1) pe_non (nomark _)))))))), ?_⟩
    walk_at "wp"
    refine ⟨_, e, rfl, hy, _, rfl, ?_⟩
    unfold worthA at q
    cases hn : numD e with
    | true =>
      rw [hn] at q
      rw [if_pos rfl]
      exact q _ (Same.refl _)
    | false =>
      rw [hn, Bool.false_or] at q
      rw [if_neg (by decide)]
      by_cases h1 : z = "fine"
      · rw [decide_eq_true h1, Bool.true_and] at q
        rw [if_pos (decide_eq_true (show z = Str.ofString "fine" from h1))]
        have e2 : decide (y = V.non) = noneD e := by
          cases hy with
          | non => rfl
          | _ => rfl
        rw [e2]
        exact q _ (Same.refl _)
      · rw [decide_eq_false h1, Bool.false_and] at q
        rw [if_neg (by rw [decide_eq_false (show ¬ z = Str.ofString "fine" from h1)]; decide)]
        exact q _ (Same.refl _)
end
end Bk

namespace Bk
open PySem PySem.Spec PyProof.Rows L2
open C8 (Met pe_mt pe_mt0)
local macro_rules | `(tactic| walk_at "wp") => `(tactic| try simp only [iRng3_eq, rRng3_i, rNeN_r, iZipA_eq, rZipA_r, iEnumZip_eq, rEnumZip_r, tFld_eq, tMeth_eq, rTIx_r, tTru, tScT2, rSetL_r, rSetOf2_r, rSorDT_r, rSetD, tDGet2, tDGet, tDNewT, cxW, rExtend_r, rSortU_r, rSetOf_r, rSortedSet_r, rNinr_r, rNeN_r, rCatL_r, rSlT_r, rListOf_r, rIsB_b, rNotB_b, tFmtO, tJs, tOst, tCallS, WE, tRaise2, rOne_i, rSorD_r, tDNewK, Int.zero_add, tNever, tFor_eq, tLc_eq, iList, iTup, iRng1_eq, rRng1_i, iRng2_eq, rRng2_i, iEnum_eq, rEnum_r, iZip_eq, rZip_r, tSl, tPart, tNoPart, rSlL_r, rCat_r, rIn_r, rNin_r, rRepr_r, iRevR, rMin_r, rShr_i, rOdd_i, rSetL_r, gSub, rRg1_i, rRg2_i, rInr_r, tAug, ipI_ii, tLstRg, tRg1, tRg2, gTup_r, gUnl_r, rInt1_b, rInt1_i, rRep_r, tStep_r, scal, tSeq, tNext, tAsg, tRet, tRetN, tIfS, tDrop, tCB, tCons, tNil, tVar, tOp, tUn, tC, rU_i, rI_ii, rI0_ii, rEq, rNe, tTest, tB, tAnd, tOr, tNot, tAndV, tOrV, tNotV, tIf, tChain, tLst, tTup, tBM, tBM0, rAppend_r, rIxL_r, rIxT_r, rMx_ii, rMn_ii, rLnL_r, rLnT_r, rIsD_int, rIsD_bool, rIsD_list, rIsD_tuple, tCall, gName, gNil_n, gCons_c, cxK, L2.start, List.map, List.replicate, List.length_cons, List.length_nil, List.cons_append, List.nil_append, List.append_nil, List.getElem?_cons_zero, List.getElem?_cons_succ, Option.some.injEq, exists_eq_left', exists_eq_left, V.int.injEq, V.bl.injEq, V.str.injEq, V.ref.injEq, List.cons.injEq, and_true, true_and, and_self, List.set, wipe, rAll_r, rSum_r, reduceCtorEq, decide_true, decide_false, reduceIte, ite_true, ite_false, if_true, if_false, Bool.false_eq_true, Bool.not_true, Bool.not_false])
local macro_rules | `(tactic| walk_at "shaped") => `(tactic| (simp only [iRng3_eq, rRng3_i, rNeN_r, SeqAt.shaped, PyData.canLay0, PyData.canLayAll0, PyData.depth, PyData.depthAll]; rfl))
local macro_rules | `(tactic| walk_at "lay") => `(tactic| (simp only [iRng3_eq, rRng3_i, rNeN_r, PyData.canLay0, PyData.canLayAll0]; rfl))
local macro_rules | `(tactic| walk_at "wg") => `(tactic| try simp only [gName, gTup_r, gCons_c, gNil_n, cxK, List.set, List.cons.injEq, and_true, true_and, exists_eq_left', exists_eq_left, List.length_cons, List.length_nil])
local macro_rules | `(tactic| walk_at "wr") => `(tactic| simp only [tSeq, tAsg, tDrop, tCallS, tCons, tNil, tVar, WE, cxK, L2.start, List.map, List.replicate, List.length_cons, List.length_nil, List.cons_append, List.nil_append, List.append_nil, List.getElem?_cons_zero, List.getElem?_cons_succ, Option.some.injEq, exists_eq_left', exists_eq_left])
section
variable {P : Program} {w : World} {K : PySem.W.Frag} {mg : Str → Option Value} {base : Heap}
/-- a day that can't be added: why -/
def spLAddR (K : PySem.W.Frag) (C Cn Cd Cm : Addr) : Sp := fun vs H _ E => ∃ p L D E' ls g ds x y d e, vs = [.ref p, x, y] ∧ Led C H p L D E' ls g ds ∧ Th K H x d ∧ Th K H y e ∧
  ((numD d = false ∧ ∀ H', Same H H' → E (.ref Cn) none H') ∨ (numD d = true ∧ dayB e = false ∧ ∀ H', Same H H' → E (.ref Cd) none H') ∨ (numD d = true ∧ dayB e = true ∧ 40 ≤ ls.length ∧ ∀ H', Same H H' → E (.ref Cm) none H'))
theorem okR_Ledger_add {f C Cn Cd Cm : Addr} {fd : FuncData} {t1 : Tok} (F : Fun K "add" "Ledger.add" s_Ledger_add f fd) (B : Bi mg) (T : LTxt K C) (M_MOST_DAYS : mg "MOST_DAYS" = some (.int 40 t1)) (E1_NoNumber : Err1 K mg "NoNumber" Cn) (E1_NoDay : Err1 K mg "NoDay" Cd) (E1_TooMany : Err1 K mg "TooMany" Cm) (D_is_number : Def P w K mg base "is_number" 2 ["thing"] (spNum K)) (D_is_day : Def P w K mg base "is_day" 3 ["thing"] (spPred K dayB)) : FnOk P w K mg base (L2.CX P w) 4 f fd ["self", "light", "day"] (spLAddR K C Cn Cd Cm) := by
  refine F.okX sc_Ledger_add (fun vs H Q E h => ?_) (fun cdv A outer s H vs Q E hr h => ?_)
  · obtain ⟨_, _, _, _, _, _, _, _, _, _, _, rfl, _⟩ := h
    rfl
  · obtain ⟨p, L, D, E', ls, g, ds, x, y, d, e, rfl, hL, hx, hy, q⟩ := h
    refine ⟨_, (pss_cons (ps_if (pt_not (pt_val (pe_callD D_is_number hr (by rfl) (pa_cons (pv 1) pa_nil)))) (pss_one (ps_raise1 (W := fun cls d _ H => E cls d H) E1_NoNumber rfl (takes_of rfl rfl rfl rfl) (by rfl))) pss_nil) (pss_cons (ps_if (pt_not (pt_val (pe_callD D_is_day hr (by rfl) (pa_cons (pv 2) pa_nil)))) (pss_one (ps_raise1 (W := fun cls d _ H => E cls d H) E1_NoDay rfl (takes_of rfl rfl rfl rfl) (by rfl))) pss_nil) (pss_cons (ps_if (pt_cmpR op_ge (pe_callB call_lnL (by rfl) B.len (by decide +kernel) (pa_cons (pe_fld (pv 0) rfl) pa_nil)) (pe_globI rfl M_MOST_DAYS) (nomark _)) (pss_one (ps_raise1 (W := fun cls d _ H => E cls d H) E1_TooMany rfl (takes_of rfl rfl rfl rfl) (by rfl))) pss_nil) pss_none))), ?_⟩
    walk_at "wp"
    refine ⟨x, d, rfl, hx, ?_⟩
    rcases q with ⟨h1, q⟩ | ⟨h1, h2, q⟩ | ⟨h1, h2, h3, q⟩
    · rw [h1]
      walk_at "wp"
      exact q _ (Same.refl _)
    · rw [h1]
      walk_at "wp"
      refine ⟨y, e, rfl, hy, ?_⟩
      rw [h2]
      walk_at "wp"
      exact fun H1 S1 => q _ S1
    · rw [h1]
      walk_at "wp"
      refine ⟨y, e, rfl, hy, ?_⟩
      rw [h2]
      walk_at "wp"
      intro H1 S1
      have hL1 := hL.same S1
      refine hL1.fLights T ?_
      walk_at "wp"
      refine ⟨_, SqL.of hL1.li, ?_⟩
      rw [List.length_map, decide_eq_true (show (40 : Int) ≤ (ls.length : Int) by omega)]
      walk_at "wp"
      exact q _ S1
def spLAddX (K : PySem.W.Frag) (C Cn Cd Cm : Addr) : Sp := fun vs H Q E => spLAdd K C vs H Q E ∨ spLAddR K C Cn Cd Cm vs H Q E
theorem okX_Ledger_add {f C Cn Cd Cm : Addr} {fd : FuncData} {t1 : Tok} (F : Fun K "add" "Ledger.add" s_Ledger_add f fd) (B : Bi mg) (T : LTxt K C) (M_MOST_DAYS : mg "MOST_DAYS" = some (.int 40 t1)) (E1_NoNumber : Err1 K mg "NoNumber" Cn) (E1_NoDay : Err1 K mg "NoDay" Cd) (E1_TooMany : Err1 K mg "TooMany" Cm) (D_is_number : Def P w K mg base "is_number" 2 ["thing"] (spNum K)) (D_is_day : Def P w K mg base "is_day" 3 ["thing"] (spPred K dayB)) : FnOk P w K mg base (L2.CX P w) 4 f fd ["self", "light", "day"] (spLAddX K C Cn Cd Cm) :=
  fnOr (fnLift (ok_Ledger_add F B T M_MOST_DAYS D_is_number D_is_day)) (okR_Ledger_add F B T M_MOST_DAYS E1_NoNumber E1_NoDay E1_TooMany D_is_number D_is_day)
/-- a part that can't be changed: why -/
def spLChgR (K : PySem.W.Frag) (C Cn Cd Cp : Addr) : Sp := fun vs H _ E => ∃ p L D E' ls g ds x y v d e u, vs = [.ref p, x, y, v] ∧ Led C H p L D E' ls g ds ∧ Th K H x d ∧ Th K H y e ∧ Th K H v u ∧
  ((plB ls.length d = false ∧ ∀ H', Same H H' → E (.ref Cd) none H') ∨ (plB ls.length d = true ∧ partD e = false ∧ ∀ H', Same H H' → E (.ref Cp) none H') ∨ (∃ s, plB ls.length d = true ∧ e = .str s ∧ partB s = true ∧ worthA s u = false ∧ ∀ H', Same H H' → E (.ref Cn) none H'))
theorem okR_Ledger_change {f C Cn Cd Cp : Addr} {fd : FuncData} (F : FunD K "change" "Ledger.change" (defArgs s_Ledger_change) (defBody s_Ledger_change) (defScope s_Ledger_change) [.non] [] f fd) (B : Bi mg) (T : LTxt K C) (E1_NoNumber : Err1 K mg "NoNumber" Cn) (E1_NoDay : Err1 K mg "NoDay" Cd) (E1_NoPart : Err1 K mg "NoPart" Cp) (D_is_place : Def P w K mg base "is_place" 2 ["thing", "many"] (spPlaceA K)) (D_is_part : Def P w K mg base "is_part" 1 ["thing"] (spPartA K)) (D_is_worth : Def P w K mg base "is_worth" 3 ["part", "thing"] (spWorthA K)) : FnOk P w K mg base (L2.CX P w) 12 f fd ["self", "day", "part", "number"] (spLChgR K C Cn Cd Cp) := by
  refine F.ok sc_Ledger_change (fun vs H Q E h => ?_) (fun cdv A outer s H vs Q E hr h => ?_)
  · obtain ⟨_, _, _, _, _, _, _, _, _, _, _, _, _, rfl, _⟩ := h
    rfl
  · obtain ⟨p, L, D, E', ls, g, ds, x, y, v, d, e, u, rfl, hL, hx, hy, hv, q⟩ := h
    refine ⟨_, (pss_cons (ps_if (pt_not (pt_val (pe_callD D_is_place hr (by rfl) (pa_cons (pv 1) (pa_cons (pe_callB call_lnL (by rfl) B.len (by decide +kernel) (pa_cons (pe_fld (pv 0) rfl) pa_nil)) pa_nil))))) (pss_one (ps_raise1 (W := fun cls d _ H => E cls d H) E1_NoDay rfl (takes_of rfl rfl rfl rfl) (by rfl))) pss_nil) (pss_cons (ps_if (pt_not (pt_val (pe_callD D_is_part hr (by rfl) (pa_cons (pv 2) pa_nil)))) (pss_one (ps_raise1 (W := fun cls d _ H => E cls d H) E1_NoPart rfl (takes_of rfl rfl rfl rfl) (by rfl))) pss_nil) (pss_cons (ps_if (pt_not (pt_val (pe_callD D_is_worth hr (by rfl) (pa_cons (pv 2) (pa_cons (pv 3) pa_nil))))) (pss_one (ps_raise1 (W := fun cls d _ H => E cls d H) E1_NoNumber rfl (takes_of rfl rfl rfl rfl) (by rfl))) pss_nil) pss_none))), ?_⟩
    walk_at "wp"
    refine hL.fLights T ?_
    walk_at "wp"
    refine ⟨_, SqL.of hL.li, ?_⟩
    rw [List.length_map]
    refine ⟨x, d, ls.length, rfl, hx, ?_⟩
    rcases q with ⟨h1, q⟩ | ⟨h1, h2, q⟩ | ⟨z, h1, rfl, h2, h3, q⟩
    · rw [h1]
      walk_at "wp"
      exact q _ (Same.refl _)
    · rw [h1]
      walk_at "wp"
      refine ⟨y, e, rfl, hy, fun H1 S1 => ?_⟩
      rw [h2]
      walk_at "wp"
      exact q _ S1
    · rw [h1]
      walk_at "wp"
      refine ⟨y, .str z, rfl, hy, fun H1 S1 => ?_⟩
      rw [show partD (.str z) = true from h2]
      walk_at "wp"
      cases hy
      refine ⟨z, v, u, rfl, hv.same S1, fun H2 S2 => ?_⟩
      rw [h3]
      walk_at "wp"
      exact q _ (S1.trans S2)
end
end Bk

namespace Bk
open PySem PySem.Spec PyProof.Rows L2
local macro_rules | `(tactic| walk_at "wp") => `(tactic| try simp only [rIsB_b, rNotB_b, tFmtO, tJs, tOst, tCallS, WE, tRaise2, rOne_i, rSorD_r, tDNewK, Int.zero_add, tNever, tFor_eq, tLc_eq, iList, iTup, iRng1_eq, rRng1_i, iRng2_eq, rRng2_i, iEnum_eq, rEnum_r, iZip_eq, rZip_r, tSl, tPart, tNoPart, rSlL_r, rCat_r, rIn_r, rNin_r, rRepr_r, iRevR, rMin_r, rShr_i, rOdd_i, rSetL_r, gSub, rRg1_i, rRg2_i, rInr_r, tAug, ipI_ii, tLstRg, tRg1, tRg2, gTup_r, gUnl_r, rInt1_b, rInt1_i, rRep_r, tStep_r, scal, tSeq, tNext, tAsg, tRet, tRetN, tIfS, tDrop, tCB, tCons, tNil, tVar, tOp, tUn, tC, rU_i, rI_ii, rI0_ii, rEq, rNe, tTest, tB, tAnd, tOr, tNot, tAndV, tOrV, tNotV, tIf, tChain, tLst, tTup, tBM, tBM0, rAppend_r, rIxL_r, rIxT_r, rMx_ii, rMn_ii, rLnL_r, rLnT_r, rIsD_int, rIsD_bool, rIsD_list, rIsD_tuple, tCall, gName, gNil_n, gCons_c, cxK, L2.start, List.map, List.replicate, List.length_cons, List.length_nil, List.cons_append, List.nil_append, List.append_nil, List.getElem?_cons_zero, List.getElem?_cons_succ, Option.some.injEq, exists_eq_left', exists_eq_left, V.int.injEq, V.bl.injEq, V.str.injEq, V.ref.injEq, List.cons.injEq, and_true, true_and, and_self, List.set, wipe, rAll_r, rSum_r, reduceCtorEq, decide_true, decide_false, reduceIte, ite_true, ite_false, if_true, if_false, Bool.false_eq_true, Bool.not_true, Bool.not_false])
local macro_rules | `(tactic| walk_at "shaped") => `(tactic| (simp only [SeqAt.shaped, PyData.canLay0, PyData.canLayAll0, PyData.depth, PyData.depthAll]; rfl))
local macro_rules | `(tactic| walk_at "lay") => `(tactic| (simp only [PyData.canLay0, PyData.canLayAll0]; rfl))
section
variable {P : Program} {w : World} {K : PySem.W.Frag} {mg : Str → Option Value} {base : Heap}
abbrev s_cNoBakery : Stmt := top 3
theorem sc_nb : NdefX.NScope ["self", "good", "day", "__class__"] ["self", "good", "day"] ["__class__"] (defScope (clsM s_cNoBakery 0)) := NdefX.nscope_by (by decide +kernel)
theorem ok_nb {fI C cc cda : Addr} {oc dV kV dc pm ct : Value} {od an : Option Addr} {osl : Array (Option Value)} (lk : K.lookup fI = some ⟨oc, od, .func (PySem.W.ksFn "__init__" "NoBakery.__init__" (defArgs (clsM s_cNoBakery 0)) (defBody (clsM s_cNoBakery 0)) (defScope (clsM s_cNoBakery 0)) dV kV dc pm an (.ref cda) ct cc), osl⟩)
    (hcd : PySem.W.codeIn K (.ref cda) "NoBakery.__init__" = true) (T : OexC K C) (U : SupC P K C cc cda) (n1 : PySem.W.findIn K (.ref C) "good" = some none) (n2 : PySem.W.findIn K (.ref C) "day" = some none) :
    FnOk P w K mg base CX0 1 fI (PySem.W.ksFn "__init__" "NoBakery.__init__" (defArgs (clsM s_cNoBakery 0)) (defBody (clsM s_cNoBakery 0)) (defScope (clsM s_cNoBakery 0)) dV kV dc pm an (.ref cda) ct cc) ["self", "good", "day"] (spInit2 K C "good" "day") := by
  refine fn_sup lk hcd T U sc_nb rfl rfl (fun vs H Q E h => ?_) (fun A outer s H vs Q E h => ?_)
  · obtain ⟨a, u, v, rfl, _⟩ := h
    rfl
  · obtain ⟨a, u, v, rfl, hu, hv, ha, q⟩ := h
    refine ⟨a, [u, v], _, _, rfl, ha, pa_cons (pe_joined (PJ.cons pe_str (PJ.cons (pe_fmtO (pv 1)) (PJ.cons pe_str (PJ.cons (pe_fmtO (pv 2)) (PJ.cons pe_str PJ.nil)))))) pa_nil, pss_cons (ps_ost (pv 0) (pv 1)) (pss_one (ps_ost (pv 0) (pv 2))), ?_⟩
    walk_at "wp"
    have l0 : (Str.empty : Str).length = 0 := by decide +kernel
    have l1 : (Str.ofString "no bakery (good ").length = 16 := by decide +kernel
    have l2 : (Str.ofString ", day ").length = 6 := by decide +kernel
    have l3 : (Str.ofString ")").length = 1 := by decide +kernel
    refine ⟨by simp only [strLen_append, l0, l1]; rw [sizeLine_eq]; omega, u, rfl, hu, fun y hy => ⟨by simp only [strLen_append, l0, l1]; rw [sizeLine_eq]; omega, by simp only [strLen_append, l0, l1, l2]; rw [sizeLine_eq]; omega, v, rfl, hv, fun y1 hy1 => ⟨by simp only [strLen_append, l0, l1, l2]; rw [sizeLine_eq]; omega, by simp only [strLen_append, l0, l1, l2, l3]; rw [sizeLine_eq]; omega, by decide, u, rfl, .ref a, rfl, a, C, rfl, T, n1, .inl ⟨ha, fun dx hdx hne => ?_⟩⟩⟩⟩
    refine ⟨v, rfl, .ref a, rfl, a, C, rfl, T, n2, .inr ⟨dx, _, upd_same, by rw [upd_ne hne, upd_same], by show 1 ≤ 900; decide, ?_⟩⟩
    exact q dx hdx hne
theorem listB_len {lo hi : Nat} {xs : List PyData} (h : listB lo hi (.list xs) = true) : xs.length ≤ hi := of_decide_eq_true (Bool.and_eq_true_iff.mp h).2
theorem lightsB_len {xs : List PyData} (h : lightsB (.list xs) = true) : xs.length ≤ 40 := by
  unfold lightsB at h
  have := (Bool.and_eq_true_iff.mp h).1
  exact of_decide_eq_true (Bool.and_eq_true_iff.mp this).2
def GoodErr (C : Addr) (E : XK) (H : Hp) (u v : Option Nat) : Prop := ∀ H' dx, Same H H' → H' dx = some (.xd [("day", natV v), ("good", natV u)]) → E (.ref C) (some dx) H'
theorem GoodErr.same {C : Addr} {E : XK} {H H1 : Hp} {u v : Option Nat} (h : GoodErr C E H u v) (s : Same H H1) : GoodErr C E H1 u v := fun H' dx s2 e => h H' dx (s.trans s2) e
theorem smV_nat {n : Nat} (h : n ≤ 1000) : smV (.int (n : Int)) := by
  show (n : Int).natAbs < 10 ^ 60
  rw [Int.natAbs_natCast]
  exact Nat.lt_of_le_of_lt h (by decide)
def spLookGoodsX (K : PySem.W.Frag) (C : Addr) : Sp := fun vs H Q E => ∃ x, ∃ n : Nat, ∃ gs, vs = [x, .int (n : Int)] ∧ Th K H x (.list gs) ∧ n ≤ 1000 ∧ gs.length ≤ 1000 ∧
  ((wgD n 0 gs = none ∧ ∀ H', Same H H' → Q .non H') ∨ (∃ u v, wgD n 0 gs = some (u, v) ∧ GoodErr C E H (some u) v))
def LgXI (x : V) (n : Nat) (gs : List PyData) (H : Hp) (i : Nat) (σ : L2.St) (H' : Hp) : Prop := (∃ y2 y3 y4 y5 y6 y7, σ = [some x, some (.int (n : Int)), y2, y3, y4, y5, y6, y7]) ∧ Same H H' ∧ wgD n 0 gs = wgD n i (gs.drop i)
def LgXJ (x : V) (n : Nat) (v2 v3 v4 v5 : V) (ds : List PyData) (H : Hp) (j : Nat) (σ : L2.St) (H' : Hp) : Prop := (∃ y6 y7, σ = [some x, some (.int (n : Int)), some v2, some v3, some v4, some v5, y6, y7]) ∧ Same H H' ∧ fbD 0 ds = fbD j (ds.drop j)
theorem drop_at {α : Type} {l : List α} {i : Nat} {x : α} (h : l[i]? = some x) : l.drop i = x :: l.drop (i + 1) := by
  obtain ⟨hi, e⟩ := List.getElem?_eq_some_iff.mp h
  rw [List.drop_eq_getElem_cons hi, e]
theorem wgX_out {K : PySem.W.Frag} {C : Addr} {H : Hp} {Q : VK} {E : XK} {n i : Nat} {o : Option Nat} {gs : List PyData} (h : (wgD n 0 gs = none ∧ ∀ H', Same H H' → Q .non H') ∨ (∃ u v, wgD n 0 gs = some (u, v) ∧ GoodErr C E H (some u) v)) (e : wgD n 0 gs = some (i, o)) : GoodErr C E H (some i) o := by
  rcases h with ⟨h1, _⟩ | ⟨u, v, h1, h2⟩
  · rw [e] at h1; cases h1
  · rw [e] at h1
    cases h1
    exact h2
theorem okx_look_at_goods {f : Addr} {fd : FuncData} {C : Addr} (F : Fun K "look_at_goods" "look_at_goods" s_look_at_goods f fd) (B : Bi mg) (NB : Err2 P w K mg base "NoBakery" C "good" "day") (D_has_good_form : Def P w K mg base "has_good_form" 4 ["thing", "many"] (spGoodForm K)) (D_is_day : Def P w K mg base "is_day" 3 ["thing"] (spPred K dayB)) :
    FnOk P w K mg base (L2.CX P w) 5 f fd ["goods", "many"] (spLookGoodsX K C) := by
  refine F.okX sc_look_at_goods (fun vs H Q E h => ?_) (fun cdv A outer s H vs Q E hr h => ?_)
  · obtain ⟨x, n, gs, rfl, _⟩ := h
    rfl
  · obtain ⟨x, n, gs, rfl, hx, hn, hgl, q⟩ := h
    refine ⟨_, (pss_one (ps_for (passes_of rfl) rfl (pi_enum (by rfl) B.enumerate (pa_cons (pv 0) pa_nil)) (pg_tup rfl (pgs_cons (pg_name (i := 2) sc_look_at_goods.nd rfl (Or.inl rfl)) (pgs_cons (pg_name (i := 3) sc_look_at_goods.nd rfl (Or.inl rfl)) pgs_nil))) (pss_cons (ps_if (pt_not (pt_val (pe_callD D_has_good_form hr (by rfl) (pa_cons (pv 3) (pa_cons (pv 1) pa_nil))))) (pss_one (ps_raise2 NB rfl (takes_of rfl rfl rfl rfl) hr (by rfl) (pa_cons (pv 2) (pa_cons pe_non pa_nil)))) pss_nil)
 (pss_cons (ps_asg (pv 3) (pg_tup rfl (pgs_cons (pg_name (i := 4) sc_look_at_goods.nd rfl (Or.inl rfl)) (pgs_cons (pg_name (i := 5) sc_look_at_goods.nd rfl (Or.inl rfl)) pgs_nil))))
 (pss_one (ps_for (passes_of rfl) rfl (pi_enum (by rfl) B.enumerate (pa_cons (pv 4) pa_nil)) (pg_tup rfl (pgs_cons (pg_name (i := 6) sc_look_at_goods.nd rfl (Or.inl rfl)) (pgs_cons (pg_name (i := 7) sc_look_at_goods.nd rfl (Or.inl rfl)) pgs_nil))) (pss_one (ps_if (pt_not (pt_val (pe_callD D_is_day hr (by rfl) (pa_cons (pv 7) pa_nil)))) (pss_one (ps_raise2 NB rfl (takes_of rfl rfl rfl rfl) hr (by rfl) (pa_cons (pv 2) (pa_cons (pv 6) pa_nil)))) pss_nil)))))))), ?_⟩
    cases hx with
    | lst hs ha =>
    rename_i a xs
    have hxs := ha.length
    walk_at "wp"
    refine ⟨_, hs, LoopR.by walk_enum (LgXI (.ref a) n gs H) ⟨⟨_, _, _, _, _, _, rfl⟩, Same.refl _, rfl⟩ (fun i σ H' _ hI => hI.2.1.seq hs) (fun i v σ H0 H1 hi hI hY => ?_) (fun σ H' hI => ?_)⟩
    rotate_left
    · obtain ⟨_, S, e⟩ := hI
      rw [hxs, List.drop_length] at e
      rcases q with ⟨_, q⟩ | ⟨u, v, h1, _⟩
      · exact q _ S
      · rw [e] at h1; cases h1
    obtain ⟨⟨y2, y3, y4, y5, y6, y7, rfl⟩, S0, hw⟩ := hI
    have S1 := S0.trans (ypair_same hY)
    obtain ⟨T, z1, z2, rfl, hT, rfl, e1, e2⟩ := hY
    cases e1
    have e2 : xs[i]? = some z2 := e2
    obtain ⟨d, hd, hz⟩ := ha.get e2
    rw [drop_at hd] at hw
    have hi2 : i ≤ 1000 := by omega
    walk_at "wp"
    refine ⟨_, SqT.of upd_same, rfl, ?_⟩
    walk_at "wp"
    refine ⟨_, _, n, rfl, hz.same S1, fun H2 S2 => ?_⟩
    have S3 := S1.trans S2
    cases hf : goodFormB n d with
    | false =>
      walk_at "wp"
      have hb : badG n d = some none := by unfold badG; rw [hf]; rfl
      have hw : wgD n 0 gs = some (i, none) := by rw [hw]; unfold wgD; rw [hb]
      exact raise2_of (smV_nat hi2) trivial fun dx hdx => (wgX_out (K := K) q hw) _ dx (S3.trans (same_upd hdx)) upd_same
    | true =>
    obtain ⟨ds, l, rfl, hdl, hlf⟩ := goodForm_inv hf
    have hb : badG n (.tuple [.list ds, l]) = (fbD 0 ds).map some := by unfold badG; rw [hf]; rfl
    walk_at "wp"
    have hz3 := hz.same S3
    cases hz3 with
    | tup ht hta =>
    rename_i b ys
    cases hta with
    | cons t1 hta => cases hta with
    | cons t2 hta =>
    cases hta
    rename_i v1 v2
    cases t1 with
    | lst hl1 hl2 =>
    rename_i c zs
    have hzs := hl2.length
    walk_at "wp"
    refine ⟨_, ht, rfl, ?_⟩
    walk_at "wp"
    refine ⟨_, hl1, LoopR.by walk_enum (LgXJ (.ref a) n _ _ _ _ ds H2) ⟨⟨_, _, rfl⟩, Same.refl _, rfl⟩ (fun i σ H' _ hI => hI.2.1.seq hl1) (fun j v σ H4 H5 hj hI hY => ?_) (fun σ H' hI => ?_)⟩
    · obtain ⟨⟨y6, y7, rfl⟩, S4, hfb⟩ := hI
      have S5 := S4.trans (ypair_same hY)
      obtain ⟨T2, z3, z4, rfl, hT2, rfl, e3, e4⟩ := hY
      cases e3
      have e4 : zs[j]? = some z4 := e4
      obtain ⟨d2, hd2, hz2⟩ := hl2.get e4
      rw [drop_at hd2] at hfb
      walk_at "wp"
      refine ⟨_, SqT.of upd_same, rfl, ?_⟩
      walk_at "wp"
      refine ⟨_, _, rfl, hz2.same S5, fun H6 S6 => ?_⟩
      cases hdd : dayB d2 with
      | true =>
        walk_at "wp"
        refine ⟨⟨_, _, rfl⟩, S5.trans S6, ?_⟩
        rw [hfb]
        unfold fbD
        rw [if_pos hdd]
        cases ds.drop (j + 1) <;> rfl
      | false =>
        walk_at "wp"
        have hfb : fbD 0 ds = some j := by rw [hfb]; unfold fbD; rw [if_neg (by rw [hdd]; decide)]
        have hw : wgD n 0 gs = some (i, some j) := by rw [hw]; unfold wgD; rw [hb, hfb]; rfl
        exact raise2_of (smV_nat hi2) (smV_nat (by omega)) fun dx hdx => (wgX_out (K := K) q hw) _ dx (S3.trans (S5.trans (S6.trans (same_upd hdx)))) upd_same
    · obtain ⟨⟨y6, y7, rfl⟩, S4, hfb⟩ := hI
      rw [hzs, List.drop_length] at hfb
      refine ⟨⟨_, _, _, _, _, _, rfl⟩, S3.trans S4, ?_⟩
      rw [hw]
      conv => lhs; unfold wgD
      rw [hb, hfb]
      rfl
def spLookX (K : PySem.W.Frag) (C : Addr) : Sp := fun vs H Q E => ∃ x d, vs = [x] ∧ Th K H x d ∧ ((bakB d = true ∧ ∀ H', Same H H' → Q .non H') ∨ (∃ u v, wrongD d = some (u, v) ∧ GoodErr C E H u v))
theorem okx_look_at_bakery {f : Addr} {fd : FuncData} {C : Addr} (F : Fun K "look_at_bakery" "look_at_bakery" s_look_at_bakery f fd) (B : Bi mg) (NB : Err2 P w K mg base "NoBakery" C "good" "day") (D_has_bakery_form : Def P w K mg base "has_bakery_form" 4 ["thing"] (spPred K bakFormB)) (D_look_at_goods : DefX P w K mg base "look_at_goods" 5 ["goods", "many"] (spLookGoodsX K C)) :
    FnOk P w K mg base (L2.CX P w) 6 f fd ["thing"] (spLookX K C) := by
  refine F.okX sc_look_at_bakery (fun vs H Q E h => ?_) (fun cdv A outer s H vs Q E hr h => ?_)
  · obtain ⟨x, d, rfl, _⟩ := h
    rfl
  · obtain ⟨x, d, rfl, hx, q⟩ := h
    refine ⟨_, (pss_cons (ps_if (pt_not (pt_val (pe_callD D_has_bakery_form hr (by rfl) (pa_cons (pv 0) pa_nil)))) (pss_one (ps_raise2 NB rfl (takes_of rfl rfl rfl rfl) hr (by rfl) (pa_cons pe_non (pa_cons pe_non pa_nil)))) pss_nil)
 (pss_cons (ps_asg (pv 0) (pg_tup rfl (pgs_cons (pg_name (i := 1) sc_look_at_bakery.nd rfl (Or.inl rfl)) (pgs_cons (pg_name (i := 2) sc_look_at_bakery.nd rfl (Or.inl rfl)) (pgs_cons (pg_name (i := 3) sc_look_at_bakery.nd rfl (Or.inl rfl)) pgs_nil)))))
 (pss_one (ps_expr (pe_callDX D_look_at_goods (W := fun cls d _ H => E cls d H) (takes_of rfl rfl rfl rfl) hr (by rfl) (pa_cons (pv 3) (pa_cons (pe_callB call_lnL (by rfl) B.len (by decide +kernel) (pa_cons (pv 1) pa_nil)) pa_nil))))))), ?_⟩
    walk_at "wp"
    refine ⟨_, _, rfl, hx, fun H1 S1 => ?_⟩
    cases hf : bakFormB d with
    | false =>
      walk_at "wp"
      have hw : wrongD d = some (none, none) := by unfold wrongD; rw [hf]; rfl
      refine raise2_of trivial trivial fun dx hdx => ?_
      rcases q with ⟨hb, _⟩ | ⟨u, v, h1, h2⟩
      · rw [wrongD_none.mpr hb] at hw; cases hw
      · rw [hw] at h1
        cases h1
        exact h2 _ dx (S1.trans (same_upd hdx)) upd_same
    | true =>
    obtain ⟨ls, b, gs, rfl, h1, h2, h3⟩ := bakForm_inv hf
    walk_at "wp"
    have hx1 := hx.same S1
    cases hx1 with
    | tup ht hta =>
    cases hta with
    | cons t1 hta => cases hta with
    | cons t2 hta => cases hta with
    | cons t3 hta =>
    cases hta
    cases t1 with
    | lst hl1 hl2 =>
    walk_at "wp"
    refine ⟨_, ht, rfl, ?_⟩
    walk_at "wp"
    have hwr : wrongD (.tuple [.list ls, b, .list gs]) = (wgD ls.length 0 gs).map fun p => (some p.1, p.2) := by unfold wrongD; rw [hf]; rfl
    have hll : ls.length ≤ 1000 := by
      have := lightsB_len h1
      omega
    have hgl : gs.length ≤ 1000 := by
      have := listB_len h3
      omega
    refine ⟨_, hl1, _, ls.length, gs, by rw [hl2.length], t3, hll, hgl, ?_⟩
    rcases q with ⟨hb, q⟩ | ⟨u, v, e1, e2⟩
    · rw [wrongD_none.mpr hb] at hwr
      exact .inl ⟨Option.map_eq_none_iff.mp hwr.symm, fun H2 S2 => q _ (S1.trans S2)⟩
    · rw [hwr] at e1
      cases hg : wgD ls.length 0 gs with
      | none => rw [hg] at e1; cases e1
      | some p =>
        rw [hg] at e1
        cases e1
        exact .inr ⟨p.1, p.2, rfl, fun H2 dx S2 e => e2 H2 dx (S1.trans S2) e⟩
end
end Bk

namespace Bk
open PySem PySem.Spec PyProof.Rows L2
local macro_rules | `(tactic| walk_at "wp") => `(tactic| try simp only [rIsB_b, rNotB_b, tFmtO, tJs, tOst, tCallS, WE, tRaise2, rOne_i, rSorD_r, tDNewK, Int.zero_add, tNever, tFor_eq, tLc_eq, iList, iTup, iRng1_eq, rRng1_i, iRng2_eq, rRng2_i, iEnum_eq, rEnum_r, iZip_eq, rZip_r, tSl, tPart, tNoPart, rSlL_r, rCat_r, rIn_r, rNin_r, rRepr_r, iRevR, rMin_r, rShr_i, rOdd_i, rSetL_r, gSub, rRg1_i, rRg2_i, rInr_r, tAug, ipI_ii, tLstRg, tRg1, tRg2, gTup_r, gUnl_r, rInt1_b, rInt1_i, rRep_r, tStep_r, scal, tSeq, tNext, tAsg, tRet, tRetN, tIfS, tDrop, tCB, tCons, tNil, tVar, tOp, tUn, tC, rU_i, rI_ii, rI0_ii, rEq, rNe, tTest, tB, tAnd, tOr, tNot, tAndV, tOrV, tNotV, tIf, tChain, tLst, tTup, tBM, tBM0, rAppend_r, rIxL_r, rIxT_r, rMx_ii, rMn_ii, rLnL_r, rLnT_r, rIsD_int, rIsD_bool, rIsD_list, rIsD_tuple, tCall, gName, gNil_n, gCons_c, cxK, L2.start, List.map, List.replicate, List.length_cons, List.length_nil, List.cons_append, List.nil_append, List.append_nil, List.getElem?_cons_zero, List.getElem?_cons_succ, Option.some.injEq, exists_eq_left', exists_eq_left, V.int.injEq, V.bl.injEq, V.str.injEq, V.ref.injEq, List.cons.injEq, and_true, true_and, and_self, List.set, wipe, rAll_r, rSum_r, reduceCtorEq, decide_true, decide_false, reduceIte, ite_true, ite_false, if_true, if_false, Bool.false_eq_true, Bool.not_true, Bool.not_false])
local macro_rules | `(tactic| walk_at "shaped") => `(tactic| (simp only [SeqAt.shaped, PyData.canLay0, PyData.canLayAll0, PyData.depth, PyData.depthAll]; rfl))
local macro_rules | `(tactic| walk_at "lay") => `(tactic| (simp only [PyData.canLay0, PyData.canLayAll0]; rfl))
section
variable {P : Program} {w : World} {K : PySem.W.Frag} {mg : Str → Option Value} {base : Heap}
def plainO (b : Bak) : Bool := b.bound.isNone && decide (b.goods.length = 1)
def spPlainX (K : PySem.W.Frag) (C : Addr) : Sp := fun vs H Q E => ∃ x d, vs = [x] ∧ Th K H x d ∧ ((∃ b, d = bakD b ∧ bakB d = true ∧ ∀ H', Same H H' → Q (.bl (plainO b)) H') ∨ (∃ u v, wrongD d = some (u, v) ∧ GoodErr C E H u v))
theorem okx_is_plain {f : Addr} {fd : FuncData} {C : Addr} (F : Fun K "is_plain" "is_plain" s_is_plain f fd) (B : Bi mg) (D_look_at_bakery : DefX P w K mg base "look_at_bakery" 6 ["thing"] (spLookX K C)) : FnOk P w K mg base (L2.CX P w) 7 f fd ["bakery"] (spPlainX K C) := by
  refine F.okX sc_is_plain (fun vs H Q E h => ?_) (fun cdv A outer s H vs Q E hr h => ?_)
  · obtain ⟨x, d, rfl, _⟩ := h
    rfl
  · obtain ⟨x, d, rfl, hx, q⟩ := h
    refine ⟨_, (pss_cons (ps_expr (pe_callDX D_look_at_bakery (W := fun cls d _ H => E cls d H) (takes_of rfl rfl rfl rfl) hr (by rfl) (pa_cons (pv 0) pa_nil)))
 (pss_cons (ps_asg (pv 0) (pg_tup rfl (pgs_cons (pg_name (i := 1) sc_is_plain.nd rfl (Or.inl rfl)) (pgs_cons (pg_name (i := 2) sc_is_plain.nd rfl (Or.inl rfl)) (pgs_cons (pg_name (i := 3) sc_is_plain.nd rfl (Or.inl rfl)) pgs_nil)))))
 (pss_one (ps_ret (pe_and (pe_cmpR op_isN (pv 2) pe_non (nomark _)) (pe_one (pe_cmpR op_eq (pe_callB call_lnL (by rfl) B.len (by decide +kernel) (pa_cons (pv 3) pa_nil)) pe_int (nomark _)))))))), ?_⟩
    walk_at "wp"
    refine ⟨_, _, rfl, hx, ?_⟩
    rcases q with ⟨b, rfl, hb, q⟩ | q
    · refine .inl ⟨hb, fun H1 s1 => ?_⟩
      obtain ⟨a, l, v2, ga, xl, xg, rfl, ht, hl, hla, h2, hgl, hga⟩ := Th.bak (hx.same s1)
      have e2 := h2.opt
      subst e2
      have hn := hga.length
      rw [List.length_map] at hn
      walk_at "wp"
      refine ⟨_, ht, rfl, ?_⟩
      have q1 := q _ s1
      unfold plainO at q1
      cases hbo : b.bound with
      | none =>
        rw [hbo] at q1
        simp only [optV]
        walk_at "wp"
        refine ⟨_, hgl, ?_⟩
        rw [hn]
        refine qb ?_ q1
        rw [Option.isNone_none, Bool.true_and]
        exact decide_eq_decide.mpr (by omega)
      | some z =>
        rw [hbo] at q1
        simp only [optV]
        walk_at "wp"
        exact q1
    · exact .inr q
end
end Bk

namespace Bk
open PySem PySem.Spec PyProof.Rows L2
local macro_rules | `(tactic| walk_at "wp") => `(tactic| try simp only [rMaxD_r, rSortedI_r, tCKw, rNinr_r, rNeN_r, rCatL_r, rSlT_r, rListOf_r, rIsB_b, rNotB_b, tFmtO, tJs, tOst, tCallS, WE, tRaise2, rOne_i, rSorD_r, tDNewK, Int.zero_add, tNever, tFor_eq, tLc_eq, iList, iTup, iRng1_eq, rRng1_i, iRng2_eq, rRng2_i, iEnum_eq, rEnum_r, iZip_eq, rZip_r, tSl, tPart, tNoPart, rSlL_r, rCat_r, rIn_r, rNin_r, rRepr_r, iRevR, rMin_r, rShr_i, rOdd_i, rSetL_r, gSub, rRg1_i, rRg2_i, rInr_r, tAug, ipI_ii, tLstRg, tRg1, tRg2, gTup_r, gUnl_r, rInt1_b, rInt1_i, rRep_r, tStep_r, scal, tSeq, tNext, tAsg, tRet, tRetN, tIfS, tDrop, tCB, tCons, tNil, tVar, tOp, tUn, tC, rU_i, rI_ii, rI0_ii, rEq, rNe, tTest, tB, tAnd, tOr, tNot, tAndV, tOrV, tNotV, tIf, tChain, tLst, tTup, tBM, tBM0, rAppend_r, rIxL_r, rIxT_r, rMx_ii, rMn_ii, rLnL_r, rLnT_r, rIsD_int, rIsD_bool, rIsD_list, rIsD_tuple, tCall, gName, gNil_n, gCons_c, cxK, L2.start, List.map, List.replicate, List.length_cons, List.length_nil, List.cons_append, List.nil_append, List.append_nil, List.getElem?_cons_zero, List.getElem?_cons_succ, Option.some.injEq, exists_eq_left', exists_eq_left, V.int.injEq, V.bl.injEq, V.str.injEq, V.ref.injEq, List.cons.injEq, and_true, true_and, and_self, List.set, wipe, rAll_r, rSum_r, reduceCtorEq, decide_true, decide_false, reduceIte, ite_true, ite_false, if_true, if_false, Bool.false_eq_true, Bool.not_true, Bool.not_false])
local macro_rules | `(tactic| walk_at "shaped") => `(tactic| (simp only [SeqAt.shaped, PyData.canLay0, PyData.canLayAll0, PyData.depth, PyData.depthAll]; rfl))
local macro_rules | `(tactic| walk_at "lay") => `(tactic| (simp only [PyData.canLay0, PyData.canLayAll0]; rfl))
local macro_rules | `(tactic| walk_at "wr") => `(tactic| simp only [tSeq, tAsg, tDrop, tCallS, tCons, tNil, tVar, WE, cxK, L2.start, List.map, List.replicate, List.length_cons, List.length_nil, List.cons_append, List.nil_append, List.append_nil, List.getElem?_cons_zero, List.getElem?_cons_succ, Option.some.injEq, exists_eq_left', exists_eq_left])
section
variable {P : Program} {w : World} {K : PySem.W.Frag} {mg : Str → Option Value} {base : Heap}
def RefP (C Cp : Addr) (d : PyData) (E : XK) (H : Hp) : Prop := (∃ u v, wrongD d = some (u, v) ∧ GoodErr C E H u v) ∨ ∃ b, d = bakD b ∧ bakB d = true ∧ plainO b = false ∧ ∀ H', Same H H' → E (.ref Cp) none H'
def spLookPlX (K : PySem.W.Frag) (C Cp : Addr) : Sp := fun vs H Q E => ∃ x d, vs = [x] ∧ Th K H x d ∧ ((∃ b, d = bakD b ∧ bakB d = true ∧ plainO b = true ∧ ∀ H', Same H H' → Q .non H') ∨ RefP C Cp d E H)
theorem okx_look_at_plain {f : Addr} {fd : FuncData} {C Cp : Addr} (F : Fun K "look_at_plain" "look_at_plain" s_look_at_plain f fd) (NP : Err1 K mg "NotPlain" Cp) (D_is_plain : DefX P w K mg base "is_plain" 7 ["bakery"] (spPlainX K C)) : FnOk P w K mg base (L2.CX P w) 8 f fd ["bakery"] (spLookPlX K C Cp) := by
  refine F.okX sc_look_at_plain (fun vs H Q E h => ?_) (fun cdv A outer s H vs Q E hr h => ?_)
  · obtain ⟨x, d, rfl, _⟩ := h
    rfl
  · obtain ⟨x, d, rfl, hx, q⟩ := h
    refine ⟨_, (pss_one (ps_if (pt_not (pt_val (pe_callDX D_is_plain (W := fun cls d _ H => E cls d H) (takes_of rfl rfl rfl rfl) hr (by rfl) (pa_cons (pv 0) pa_nil)))) (pss_one (ps_raise1 (W := fun cls d _ H => E cls d H) NP rfl (takes_of rfl rfl rfl rfl) (by rfl))) pss_nil)), ?_⟩
    walk_at "wp"
    refine ⟨_, _, rfl, hx, ?_⟩
    rcases q with ⟨b, rfl, hb, hp, q⟩ | q | ⟨b, rfl, hb, hp, q⟩
    · refine .inl ⟨b, rfl, hb, fun H1 s1 => ?_⟩
      rw [hp]
      walk_at "wp"
      exact q _ s1
    · exact .inr q
    · refine .inl ⟨b, rfl, hb, fun H1 s1 => ?_⟩
      rw [hp]
      walk_at "wp"
      exact q _ s1
end
end Bk

namespace Bk
open PySem PySem.Spec PyProof.Rows L2
open C8 (Met pe_mt pe_mt0)
local macro_rules | `(tactic| walk_at "wp") => `(tactic| try simp only [iRng3_eq, rRng3_i, rNeN_r, iZipA_eq, rZipA_r, iEnumZip_eq, rEnumZip_r, tFld_eq, tMeth_eq, rTIx_r, tTru, tScT2, rSetL_r, rSetOf2_r, rSorDT_r, rSetD, tDGet2, tDGet, tDNewT, cxW, rExtend_r, rSortU_r, rSetOf_r, rSortedSet_r, rNinr_r, rNeN_r, rCatL_r, rSlT_r, rListOf_r, rIsB_b, rNotB_b, tFmtO, tJs, tOst, tCallS, WE, tRaise2, rOne_i, rSorD_r, tDNewK, Int.zero_add, tNever, tFor_eq, tLc_eq, iList, iTup, iRng1_eq, rRng1_i, iRng2_eq, rRng2_i, iEnum_eq, rEnum_r, iZip_eq, rZip_r, tSl, tPart, tNoPart, rSlL_r, rCat_r, rIn_r, rNin_r, rRepr_r, iRevR, rMin_r, rShr_i, rOdd_i, rSetL_r, gSub, rRg1_i, rRg2_i, rInr_r, tAug, ipI_ii, tLstRg, tRg1, tRg2, gTup_r, gUnl_r, rInt1_b, rInt1_i, rRep_r, tStep_r, scal, tSeq, tNext, tAsg, tRet, tRetN, tIfS, tDrop, tCB, tCons, tNil, tVar, tOp, tUn, tC, rU_i, rI_ii, rI0_ii, rEq, rNe, tTest, tB, tAnd, tOr, tNot, tAndV, tOrV, tNotV, tIf, tChain, tLst, tTup, tBM, tBM0, rAppend_r, rIxL_r, rIxT_r, rMx_ii, rMn_ii, rLnL_r, rLnT_r, rIsD_int, rIsD_bool, rIsD_list, rIsD_tuple, tCall, gName, gNil_n, gCons_c, cxK, L2.start, List.map, List.replicate, List.length_cons, List.length_nil, List.cons_append, List.nil_append, List.append_nil, List.getElem?_cons_zero, List.getElem?_cons_succ, Option.some.injEq, exists_eq_left', exists_eq_left, V.int.injEq, V.bl.injEq, V.str.injEq, V.ref.injEq, List.cons.injEq, and_true, true_and, and_self, List.set, wipe, rAll_r, rSum_r, reduceCtorEq, decide_true, decide_false, reduceIte, ite_true, ite_false, if_true, if_false, Bool.false_eq_true, Bool.not_true, Bool.not_false])
local macro_rules | `(tactic| walk_at "shaped") => `(tactic| (simp only [iRng3_eq, rRng3_i, rNeN_r, SeqAt.shaped, PyData.canLay0, PyData.canLayAll0, PyData.depth, PyData.depthAll]; rfl))
local macro_rules | `(tactic| walk_at "lay") => `(tactic| (simp only [iRng3_eq, rRng3_i, rNeN_r, PyData.canLay0, PyData.canLayAll0]; rfl))
local macro_rules | `(tactic| walk_at "wg") => `(tactic| try simp only [gName, gTup_r, gCons_c, gNil_n, cxK, List.set, List.cons.injEq, and_true, true_and, exists_eq_left', exists_eq_left, List.length_cons, List.length_nil])
local macro_rules | `(tactic| walk_at "wr") => `(tactic| simp only [tSeq, tAsg, tDrop, tCallS, tCons, tNil, tVar, WE, cxK, L2.start, List.map, List.replicate, List.length_cons, List.length_nil, List.cons_append, List.nil_append, List.append_nil, List.getElem?_cons_zero, List.getElem?_cons_succ, Option.some.injEq, exists_eq_left', exists_eq_left])
section
variable {P : Program} {w : World} {K : PySem.W.Frag} {mg : Str → Option Value} {base : Heap}
/-- what no ledger is made of -/
def spLInitR (K : PySem.W.Frag) (C1 Cp : Addr) : Sp := fun vs H _ E => ∃ (p : Addr) (x : V) (d : PyData), vs = [.ref p, x] ∧ Th K H x d ∧ RefP C1 Cp d E H
theorem okR_Ledger_init {f C1 Cp : Addr} {fd : FuncData} (F : Fun K "__init__" "Ledger.__init__" s_Ledger_init f fd) (B : Bi mg) (DX_look_at_plain : DefX P w K mg base "look_at_plain" 8 ["bakery"] (spLookPlX K C1 Cp)) : FnOk P w K mg base (L2.CX P w) 9 f fd ["self", "bakery"] (spLInitR K C1 Cp) := by
  have D_look_at_plain := DX_look_at_plain
  refine F.okX sc_Ledger_init (fun vs H Q E h => ?_) (fun cdv A outer s H vs Q E hr h => ?_)
  · obtain ⟨_, _, _, rfl, _⟩ := h
    rfl
  · obtain ⟨p, x, d, rfl, hx, q⟩ := h
    refine ⟨_, (pss_cons (ps_expr (pe_callDX D_look_at_plain (W := fun cls d _ H => E cls d H) (takes_of rfl rfl rfl rfl) hr (by rfl) (pa_cons (pv 1) pa_nil))) pss_none), ?_⟩
    walk_at "wp"
    exact ⟨x, d, rfl, hx, .inr q⟩
theorem part_of {P : Program} {w : World} {K : PySem.W.Frag} {mg : Str → Option Value} {base : Heap} {ps : List Str} (D : Def P w K mg base "is_part" 1 ps (spPartA K)) : Def P w K mg base "is_part" 1 ps (spPart K) :=
  let ⟨f, fd, h1, h2, h3, F⟩ := D.ex
  ⟨f, fd, h1, h2, h3, F.imp fun vs H Q E ⟨s, e, hp, q⟩ => ⟨.str s, .str s, e, .str s, fun H' S => by
    have : partD (.str s) = true := hp
    rw [this]
    exact q H' S⟩⟩
theorem worthA_opt {s : Str} {o : Option Int} : worthA s (optD o) = worthB s o := by
  unfold worthA worthB
  cases o with
  | none => rfl
  | some i => rfl
theorem worth_of {P : Program} {w : World} {K : PySem.W.Frag} {mg : Str → Option Value} {base : Heap} {ps : List Str} (D : Def P w K mg base "is_worth" 3 ps (spWorthA K)) : Def P w K mg base "is_worth" 3 ps (spWorth K) :=
  let ⟨f, fd, h1, h2, h3, F⟩ := D.ex
  ⟨f, fd, h1, h2, h3, F.imp fun vs H Q E ⟨s, o, e, hp, q⟩ => ⟨s, optV o, optD o, e, Th.optV o, fun H' S => by
    rw [worthA_opt, hp]
    exact q H' S⟩⟩
theorem place_of {P : Program} {w : World} {K : PySem.W.Frag} {mg : Str → Option Value} {base : Heap} {ps : List Str} (D : Def P w K mg base "is_place" 2 ps (spPlaceA K)) : Def P w K mg base "is_place" 2 ps (spPlace K) :=
  let ⟨f, fd, h1, h2, h3, F⟩ := D.ex
  ⟨f, fd, h1, h2, h3, F.imp fun vs H Q E ⟨i, n, e, q⟩ => ⟨.int i, .int i, n, e, .int i, q⟩⟩
def spLChgX (K : PySem.W.Frag) (C Cn Cd Cp : Addr) : Sp := fun vs H Q E => spLChange K C vs H Q E ∨ spLChgR K C Cn Cd Cp vs H Q E
theorem okX_Ledger_change {f C Cn Cd Cp : Addr} {fd : FuncData} (F : FunD K "change" "Ledger.change" (defArgs s_Ledger_change) (defBody s_Ledger_change) (defScope s_Ledger_change) [.non] [] f fd) (B : Bi mg) (T : LTxt K C) (E1_NoNumber : Err1 K mg "NoNumber" Cn) (E1_NoDay : Err1 K mg "NoDay" Cd) (E1_NoPart : Err1 K mg "NoPart" Cp) (D_is_place : Def P w K mg base "is_place" 2 ["thing", "many"] (spPlaceA K)) (D_is_part : Def P w K mg base "is_part" 1 ["thing"] (spPartA K)) (D_is_worth : Def P w K mg base "is_worth" 3 ["part", "thing"] (spWorthA K)) (T_worth_at : C8.Met P w K mg base 1 C "worth_at" (spLWorth K C) []) (T_set_part : C8.Met P w K mg base 11 C "set_part" (spLSet K C) []) : FnOk P w K mg base (L2.CX P w) 12 f fd ["self", "day", "part", "number"] (spLChgX K C Cn Cd Cp) :=
  fnOr (fnLift (ok_Ledger_change F B T (place_of D_is_place) (part_of D_is_part) (worth_of D_is_worth) T_worth_at T_set_part)) (okR_Ledger_change F B T E1_NoNumber E1_NoDay E1_NoPart D_is_place D_is_part D_is_worth)
end
end Bk

namespace Bk
open PySem PySem.Spec PyProof.Rows L2
local macro_rules | `(tactic| walk_at "wp") => `(tactic| try simp only [rNinr_r, rNeN_r, rCatL_r, rSlT_r, rListOf_r, rIsB_b, rNotB_b, tFmtO, tJs, tOst, tCallS, WE, tRaise2, rOne_i, rSorD_r, tDNewK, Int.zero_add, tNever, tFor_eq, tLc_eq, iList, iTup, iRng1_eq, rRng1_i, iRng2_eq, rRng2_i, iEnum_eq, rEnum_r, iZip_eq, rZip_r, tSl, tPart, tNoPart, rSlL_r, rCat_r, rIn_r, rNin_r, rRepr_r, iRevR, rMin_r, rShr_i, rOdd_i, rSetL_r, gSub, rRg1_i, rRg2_i, rInr_r, tAug, ipI_ii, tLstRg, tRg1, tRg2, gTup_r, gUnl_r, rInt1_b, rInt1_i, rRep_r, tStep_r, scal, tSeq, tNext, tAsg, tRet, tRetN, tIfS, tDrop, tCB, tCons, tNil, tVar, tOp, tUn, tC, rU_i, rI_ii, rI0_ii, rEq, rNe, tTest, tB, tAnd, tOr, tNot, tAndV, tOrV, tNotV, tIf, tChain, tLst, tTup, tBM, tBM0, rAppend_r, rIxL_r, rIxT_r, rMx_ii, rMn_ii, rLnL_r, rLnT_r, rIsD_int, rIsD_bool, rIsD_list, rIsD_tuple, tCall, gName, gNil_n, gCons_c, cxK, L2.start, List.map, List.replicate, List.length_cons, List.length_nil, List.cons_append, List.nil_append, List.append_nil, List.getElem?_cons_zero, List.getElem?_cons_succ, Option.some.injEq, exists_eq_left', exists_eq_left, V.int.injEq, V.bl.injEq, V.str.injEq, V.ref.injEq, List.cons.injEq, and_true, true_and, and_self, List.set, wipe, rAll_r, rSum_r, reduceCtorEq, decide_true, decide_false, reduceIte, ite_true, ite_false, if_true, if_false, Bool.false_eq_true, Bool.not_true, Bool.not_false])
local macro_rules | `(tactic| walk_at "shaped") => `(tactic| (simp only [SeqAt.shaped, PyData.canLay0, PyData.canLayAll0, PyData.depth, PyData.depthAll]; rfl))
local macro_rules | `(tactic| walk_at "lay") => `(tactic| (simp only [PyData.canLay0, PyData.canLayAll0]; rfl))
local macro_rules | `(tactic| walk_at "wg") => `(tactic| try simp only [gName, gTup_r, gCons_c, gNil_n, cxK, List.set, List.cons.injEq, and_true, true_and, exists_eq_left', exists_eq_left, List.length_cons, List.length_nil])
section
variable {P : Program} {w : World} {K : PySem.W.Frag} {mg : Str → Option Value} {base : Heap}
abbrev s_whole : Stmt := top 79
theorem sc_whole : FnScope ["_law_thing_here"] ["_law_thing_here"] (defScope s_whole) := ⟨rfl, rfl, rfl, by decide +kernel, rfl, by decide +kernel, by decide +kernel⟩
theorem ok_whole {f : Addr} {fd : FuncData} (F : Fun K "_law_whole" "_law_whole" s_whole f fd) (B : Bi mg) : FnOk P w K mg base CX0 1 f fd ["_law_thing_here"] (spWhole K) := by
  refine F.ok sc_whole (fun vs H Q E h => ?_) (fun cdv A outer s H vs Q E hr h => ?_)
  · obtain ⟨x, d, rfl, _⟩ := h
    rfl
  · obtain ⟨x, d, rfl, hx, q⟩ := h
    refine ⟨_, (pss_one (ps_ret (pe_and (pe_callB (call_isD .int) (by rfl) B.isinstance (by decide +kernel) (pa_cons (pv 0) (pa_cons (pe_bltn (v := .ty "int") (by rfl) B.int (by decide +kernel) rfl) pa_nil))) (pe_one (pe_not (pe_callB (call_isD .bool) (by rfl) B.isinstance (by decide +kernel) (pa_cons (pv 0) (pa_cons (pe_bltn (v := .ty "bool") (by rfl) B.bool (by decide +kernel) rfl) pa_nil)))))))), ?_⟩
    exact e_whole hx rfl rfl q
abbrev s_is_number_l : Stmt := top 84
theorem sc_is_number_l : FnScope ["_law_thing_here"] ["_law_thing_here"] (defScope s_is_number_l) := ⟨rfl, rfl, rfl, by decide +kernel, rfl, by decide +kernel, by decide +kernel⟩
theorem ok_isnum_l {f : Addr} {fd : FuncData} (F : Fun K "_law_is_number" "_law_is_number" s_is_number_l f fd) (B : Bi mg) (D_whole : Def P w K mg base "_law_whole" 1 ["_law_thing_here"] (spWhole K)) : FnOk P w K mg base CX0 2 f fd ["_law_thing_here"] (spNum K) := by
  refine F.ok sc_is_number_l (fun vs H Q E h => ?_) (fun cdv A outer s H vs Q E hr h => ?_)
  · obtain ⟨x, d, rfl, _⟩ := h
    rfl
  · obtain ⟨x, d, rfl, hx, q⟩ := h
    refine ⟨_, (pss_one (ps_ret (pe_and (pe_callD D_whole hr (by rfl) (pa_cons (pv 0) pa_nil)) (pe_one (pe_chain op_le op_le pe_int (pv 0) (pe_op op_pow pe_int pe_int)))))), ?_⟩
    walk_at "wp"
    refine ⟨x, d, rfl, hx, ?_⟩
    walk_at "wp"
    cases hx with
    | int i =>
      simp only [wholeD]
      walk_at "wp"
      by_cases h : 0 ≤ i
      · simp only [numD, h, decide_true, Bool.true_and] at q
        rw [if_pos (decide_eq_true h)]
        refine ⟨⟨by decide, by decide, by decide⟩, ?_⟩
        exact q
      · simp only [numD, h, decide_false, Bool.false_and] at q
        rw [if_neg (by rw [decide_eq_true_eq]; exact h)]
        exact q
    | _ => exact q
abbrev s_is_day_l : Stmt := top 86
theorem sc_is_day_l : FnScope ["_law_thing_here", "_law_part_here"] ["_law_thing_here"] (defScope s_is_day_l) := ⟨rfl, rfl, rfl, by decide +kernel, rfl, by decide +kernel, by decide +kernel⟩
theorem ok_isday_l {f : Addr} {fd : FuncData} (F : Fun K "_law_is_day" "_law_is_day" s_is_day_l f fd) (B : Bi mg) (D_is_number_l : Def P w K mg base "_law_is_number" 2 ["_law_thing_here"] (spNum K)) : FnOk P w K mg base CX0 3 f fd ["_law_thing_here"] (spPred K dayB) := by
  refine F.ok sc_is_day_l (fun vs H Q E h => ?_) (fun cdv A outer s H vs Q E hr h => ?_)
  · obtain ⟨x, d, rfl, _⟩ := h
    rfl
  · obtain ⟨x, d, rfl, hx, q⟩ := h
    refine ⟨_, (pss_cons (ps_if (PW.pt (pw_or (pt_not (pt_val (pe_callB (call_isD .tuple) (by rfl) B.isinstance (by decide +kernel) (pa_cons (pv 0) (pa_cons (pe_bltn (v := .ty "tuple") (by rfl) B.tuple (by decide +kernel) rfl) pa_nil))))) (pw_or (pt_cmpR op_ne (pe_callB call_lnT (by rfl) B.len (by decide +kernel) (pa_cons (pv 0) pa_nil)) pe_int (nomark _)) (pw_or1 (pt_not (pt_val (pe_callB (cr_all rfl) (by rfl) B.all (by decide +kernel) (pa_cons (pe_lc (own := [("_law_part_here", 1)]) (g := (gName 1)) rfl sc_is_day_l.nd (pi_tup (pe_slice sl_tup (pv 0) po_none (po_some pe_int))) (blkOk_by (own := [("_law_part_here", 1)]) (N := ["_law_thing_here", "_law_part_here"]) (sc := defScope s_is_day_l) (by decide +kernel)) (fun _ _ _ _ _ => (pg_name (i := 1) sc_is_day_l.nd rfl (Or.inl rfl))) (fun _ _ _ _ _ => pts_nil) (fun _ _ _ _ _ => (pe_callD D_is_number_l hr (by rfl) (pa_cons (pv 1) pa_nil)))) pa_nil)))))))) (pss_one (ps_ret pe_bl)) pss_nil)
 (pss_one (ps_ret (pe_or (pe_cmpR op_isN (pe_ix ix_tup (pv 0) pe_int (fun _ _ => rfl)) pe_non (nomark _)) (pe_one (pe_callD D_is_number_l hr (by rfl) (pa_cons (pe_ix ix_tup (pv 0) pe_int (fun _ _ => rfl)) pa_nil))))))), ?_⟩
    walk_at "wp"
    refine ⟨d, hx, ?_⟩
    cases hx with
    | tup hs ha =>
      rename_i a xs ds
      have hxl := ha.length
      simp only [isD]
      walk_at "wp"
      refine ⟨_, hs, ?_⟩
      walk_at "wp"
      by_cases h4 : ds.length = 4
      · obtain ⟨d1, d2, d3, d4, rfl⟩ := four h4
        cases ha with
        | cons t1 ha => cases ha with
        | cons t2 ha => cases ha with
        | cons t3 ha => cases ha with
        | cons t4 ha =>
        cases ha
        rename_i v1 v2 v3 v4
        rw [show (!decide ((([v1, v2, v3, v4] : List V).length : Int) = 4)) = false from rfl]
        walk_at "wp"
        refine ⟨_, hs, (show ¬ (HT.sIx 4 0 none = 0 ∧ HT.sIx 4 4 (some 3) = 4) by decide), fun p hp => ⟨⟨_, SqT.of upd_same⟩, fun D hD => ?_⟩⟩
        rw [show cutV [v1, v2, v3, v4] none (some 3) = [v1, v2, v3] from cutV_upto _ 3] at hD ⊢
        have sp : Same H (upd H p (.tup [v1, v2, v3])) := same_upd hp
        have hT : SqT K (upd H p (.tup [v1, v2, v3])) p [v1, v2, v3] := SqT.of upd_same
        generalize upd H p (.tup [v1, v2, v3]) = Hb at sp hT hD ⊢
        have ta : ThAll K Hb [v1, v2, v3] [d1, d2, d3] := .cons (t1.same sp) (.cons (t2.same sp) (.cons (t3.same sp) .nil))
        refine LcR.map (walk_tup (xs := [v1, v2, v3])) (([d1, d2, d3].map numD).map V.bl) hD rfl (by show 3 ≤ 100000; decide) (fun H s => Same.tup s hT) (fun _ _ _ _ y => yat_same y) (fun i x y H0 H1 hi s1 yy hy R hR => ?_) (fun H1 s1 hH => ?_)
        · obtain ⟨rfl, hx⟩ := yy
          obtain ⟨d, hd, hxd⟩ := ta.get hx
          walk_at "wp"
          refine ⟨x, d, rfl, hxd.same s1, ?_⟩
          rw [List.getElem?_map, List.getElem?_map, hd] at hy
          cases hy
          exact hR _ (Same.refl _)
        · have q1 := q _ (sp.trans s1)
          refine ⟨[d1, d2, d3].map numD, SqL.of hH, ?_⟩
          have e3 : ([d1, d2, d3].map numD).all id = (numD d1 && numD d2 && numD d3) := by
            simp only [List.map, List.all_cons, List.all_nil, id, Bool.and_true, Bool.and_assoc]
          rw [e3]
          have hs1 := (sp.trans s1)
          cases hc : (numD d1 && numD d2 && numD d3) with
          | false =>
            refine qb ?_ q1
            simp only [dayB, hc, Bool.false_and]
          | true =>
            have t4' := t4.same hs1
            refine ⟨_, _, Same.tup hs1 hs, atI_nat (j := 3) rfl, ?_⟩
            walk_at "wp"
            rw [t4'.isNon]
            refine ite2 (fun hn => qb ?_ q1) (fun hn => ⟨_, _, Same.tup hs1 hs, atI_nat (j := 3) rfl, _, _, rfl, t4', qb ?_ q1⟩)
            · simp only [dayB, hc, hn, Bool.true_or, Bool.true_and]
            · simp only [dayB, hc, Bool.eq_false_iff.mpr hn, Bool.false_or, Bool.true_and]
      · have hx4 : ¬ ((xs.length : Nat) : Int) = 4 := by omega
        rw [decide_eq_false hx4]
        walk_at "wp"
        refine qb ?_ (q H (Same.refl _))
        symm
        match ds, h4 with
        | [], _ => rfl
        | [_], _ => rfl
        | [_, _], _ => rfl
        | [_, _, _], _ => rfl
        | [_, _, _, _], h4 => exact absurd rfl h4
        | _ :: _ :: _ :: _ :: _ :: _, _ => rfl
    | _ => exact q H (Same.refl _)
abbrev s_add_due : Stmt := top 88
theorem sc_add_due : FnScope ["_law_light", "_law_day_here", "_law_many"] ["_law_light", "_law_day_here", "_law_many"] (defScope s_add_due) := ⟨rfl, rfl, rfl, by decide +kernel, rfl, by decide +kernel, by decide +kernel⟩
/-- what an adding comes to -/
def addW (d e : PyData) (n : Nat) : Str := if numD d = false then "number" else if dayB e = false then "day" else if n = 40 then "many" else "told"
def spAddDue (K : PySem.W.Frag) : Sp := fun vs H Q _ => ∃ x y d e, ∃ n : Nat, vs = [x, y, .int (n : Int)] ∧ Th K H x d ∧ Th K H y e ∧ ∀ H', Same H H' → Q (.str (addW d e n)) H'
theorem ok_add_due {f : Addr} {fd : FuncData} (F : Fun K "_law_add_due" "_law_add_due" s_add_due f fd) (B : Bi mg) (D_is_number_l : Def P w K mg base "_law_is_number" 2 ["_law_thing_here"] (spNum K)) (D_is_day_l : Def P w K mg base "_law_is_day" 3 ["_law_thing_here"] (spPred K dayB)) : FnOk P w K mg base CX0 4 f fd ["_law_light", "_law_day_here", "_law_many"] (spAddDue K) := by
  refine F.ok sc_add_due (fun vs H Q E h => ?_) (fun cdv A outer s H vs Q E hr h => ?_)
  · obtain ⟨_, _, _, _, _, rfl, _⟩ := h
    rfl
  · obtain ⟨x, y, d, e, n, rfl, hx, hy, q⟩ := h
    refine ⟨_, (pss_cons (ps_if (pt_not (pt_val (pe_callD D_is_number_l hr (by rfl) (pa_cons (pv 0) pa_nil)))) (pss_one (ps_ret pe_str)) pss_nil)
 (pss_cons (ps_if (pt_not (pt_val (pe_callD D_is_day_l hr (by rfl) (pa_cons (pv 1) pa_nil)))) (pss_one (ps_ret pe_str)) pss_nil)
 (pss_one (ps_ret (pe_ix ix_list (pe_lst (pa_cons pe_str (pa_cons pe_str pa_nil))) (pe_callTy call_in1 (by rfl) B.int (by decide +kernel) (pa_cons (pe_cmpR op_eq (pv 2) pe_int (nomark _)) pa_nil)) (fun _ _ => rfl)))))), ?_⟩
    walk_at "wp"
    refine ⟨x, d, rfl, hx, ?_⟩
    unfold addW at q
    cases h1 : numD d with
    | false =>
      rw [if_pos h1] at q
      walk_at "wp"
      exact q _ (Same.refl _)
    | true =>
      rw [if_neg (by rw [h1]; decide)] at q
      walk_at "wp"
      refine ⟨y, e, rfl, hy, fun H1 S1 => ?_⟩
      cases h2 : dayB e with
      | false =>
        rw [if_pos h2] at q
        walk_at "wp"
        exact q _ S1
      | true =>
        rw [if_neg (by rw [h2]; decide)] at q
        walk_at "wp"
        have hN : (if n = 40 then ("many" : Str) else "told") = (if decide ((n : Int) = 40) = true then "many" else "told") := by
          by_cases h : n = 40
          · rw [if_pos h, if_pos (decide_eq_true (by omega))]
          · rw [if_neg h, if_neg (by rw [decide_eq_true_eq]; omega)]
        rw [hN] at q
        refine ⟨sz100 (by decide), fun p hp => ?_⟩
        by_cases h : decide ((n : Int) = 40) = true
        · rw [if_pos h] at q ⊢
          exact ⟨_, _, SqL.of upd_same, atI_nat (j := 1) rfl, q _ (S1.trans (same_upd hp))⟩
        · rw [if_neg h] at q ⊢
          exact ⟨_, _, SqL.of upd_same, atI_nat (j := 0) rfl, q _ (S1.trans (same_upd hp))⟩
abbrev s_change_due : Stmt := top 89
theorem sc_change_due : FnScope ["_law_day_here", "_law_part_here", "_law_number", "_law_many"] ["_law_day_here", "_law_part_here", "_law_number", "_law_many"] (defScope s_change_due) := ⟨rfl, rfl, rfl, by decide +kernel, rfl, by decide +kernel, by decide +kernel⟩
theorem inV_strs (z : Str) (L : List Str) : inV (V.str z) (L.map V.str) = decide (z ∈ L) := by
  unfold inV
  rw [List.any_map]
  refine Bool.eq_iff_iff.mpr (List.any_eq_true.trans ?_)
  rw [decide_eq_true_eq]
  constructor
  · rintro ⟨s, hs, he⟩
    have he : eqV (.str s) (.str z) = true := he
    simp only [eqV, beq_iff_eq] at he
    rw [← he]
    exact hs
  · exact fun h => ⟨z, h, by show eqV (.str z) (.str z) = true; simp only [eqV, beq_iff_eq]⟩
theorem partB_five (z : Str) : decide (z ∈ (["light", "want", "loaf", "keep", "fine"] : List Str)) = partB z := by
  unfold partB
  rw [← Bool.decide_or]
  congr 1
  exact propext List.mem_cons
def chgW (n : Nat) (d e u : PyData) : Str := if plB n d = false then "day" else if partD e = false then "part" else match e with | .str s => if worthA s u = true then "told" else "number" | _ => "part"
def spChgDue (K : PySem.W.Frag) : Sp := fun vs H Q _ => ∃ x y v d e u, ∃ n : Nat, vs = [x, y, v, .int (n : Int)] ∧ Th K H x d ∧ Th K H y e ∧ Th K H v u ∧ ∀ H', Same H H' → Q (.str (chgW n d e u)) H'
theorem ok_change_due {f : Addr} {fd : FuncData} (F : Fun K "_law_change_due" "_law_change_due" s_change_due f fd) (B : Bi mg) (Bq : mg "str" = none) (D_whole : Def P w K mg base "_law_whole" 1 ["_law_thing_here"] (spWhole K)) (D_is_number_l : Def P w K mg base "_law_is_number" 2 ["_law_thing_here"] (spNum K)) : FnOk P w K mg base CX0 3 f fd ["_law_day_here", "_law_part_here", "_law_number", "_law_many"] (spChgDue K) := by
  refine F.ok sc_change_due (fun vs H Q E h => ?_) (fun cdv A outer s H vs Q E hr h => ?_)
  · obtain ⟨_, _, _, _, _, _, _, rfl, _⟩ := h
    rfl
  · obtain ⟨x, y, v, d, e, u, n, rfl, hx, hy, hv, q⟩ := h
    refine ⟨_, (pss_cons (ps_if (PW.pt (pw_or (pt_not (pt_val (pe_callD D_whole hr (by rfl) (pa_cons (pv 0) pa_nil)))) (pw_or1 (pt_not (pt_chain op_le op_lt pe_int (pv 0) (pv 3)))))) (pss_one (ps_ret pe_str)) pss_nil)
 (pss_cons (ps_if (PW.pt (pw_or (pt_not (pt_val (pe_callB (call_isD .str) (by rfl) B.isinstance (by decide +kernel) (pa_cons (pv 1) (pa_cons (pe_bltn (v := .ty "str") (by rfl) Bq (by decide +kernel) rfl) pa_nil))))) (pw_or1 (pt_cmpR op_notIn_seq (pv 1) (pe_lst (pa_cons pe_str (pa_cons pe_str (pa_cons pe_str (pa_cons pe_str (pa_cons pe_str pa_nil)))))) (by rfl))))) (pss_one (ps_ret pe_str)) pss_nil)
 (pss_cons (ps_if (PW.pt (pw_or (pt_val (pe_callD D_is_number_l hr (by rfl) (pa_cons (pv 2) pa_nil))) (pw_or1 (PW.pt (pw_and (pt_cmpR op_eq (pv 1) pe_str (nomark _)) (pw_and1 (pt_cmpR op_isN (pv 2) pe_non (nomark _)))))))) (pss_one (ps_ret pe_str)) pss_nil)
 (pss_one (ps_ret pe_str))))), ?_⟩
    walk_at "wp"
    refine ⟨x, d, rfl, hx, ?_⟩
    have nop : (∀ i, d ≠ .int i) → plB n d = false := fun h => by
      cases d with
      | int i => exact absurd rfl (h i)
      | _ => rfl
    have hx0 := hx
    cases hx with
    | int i =>
      simp only [wholeD]
      walk_at "wp"
      by_cases h0 : 0 ≤ i
      · rw [decide_eq_true h0]
        walk_at "wp"
        by_cases h1 : i < (n : Int)
        · rw [decide_eq_true h1]
          walk_at "wp"
          have hpl : plB n (.int i) = true := by simp only [plB, h0, h1, decide_true, Bool.and_true]
          unfold chgW at q
          rw [if_neg (by rw [hpl]; decide)] at q
          have hy0 := hy
          cases hy with
          | str z =>
            refine ⟨.str z, .str z, rfl, .str _, true, rfl, ?_⟩
            walk_at "wp"
            refine ⟨sz100 (by decide), fun p hp => ⟨_, .inl (SqL.of upd_same), rfl, by decide +kernel, ?_⟩⟩
            have S1 := same_upd (o := .lst [V.str "light", V.str "want", V.str "loaf", V.str "keep", V.str "fine"]) hp
            rw [show inV (V.str z) [V.str (Str.ofString "light"), V.str (Str.ofString "want"), V.str (Str.ofString "loaf"), V.str (Str.ofString "keep"), V.str (Str.ofString "fine")] = partB z from (inV_strs z ["light", "want", "loaf", "keep", "fine"]).trans (partB_five z)]
            have hpd : partD (.str z) = partB z := rfl
            rw [hpd] at q
            cases hb : partB z with
            | false =>
              rw [if_pos hb] at q
              walk_at "wp"
              exact q _ S1
            | true =>
              rw [if_neg (by rw [hb]; decide)] at q
              walk_at "wp"
              refine ⟨v, u, rfl, hv.same S1, ?_⟩
              walk_at "wp"
              have q : ∀ H', Same H H' → Q (.str (if (numD u || (decide (z = "fine") && noneD u)) = true then "told" else "number")) H' := q
              cases hn : numD u with
              | true =>
                rw [hn, Bool.true_or] at q
                walk_at "wp"
                exact q _ S1
              | false =>
                rw [hn, Bool.false_or] at q
                walk_at "wp"
                by_cases hf : z = "fine"
                · rw [decide_eq_true hf, Bool.true_and] at q
                  rw [if_pos (decide_eq_true (show z = Str.ofString "fine" from hf)), show decide (v = V.non) = noneD u by cases hv <;> rfl]
                  cases hu : noneD u with
                  | true =>
                    rw [hu] at q
                    exact q _ S1
                  | false =>
                    rw [hu] at q
                    exact q _ S1
                · rw [decide_eq_false hf, Bool.false_and] at q
                  rw [if_neg (by rw [decide_eq_false (show ¬ z = Str.ofString "fine" from hf)]; decide)]
                  exact q _ S1
          | _ =>
            refine ⟨_, _, rfl, hy0, false, rfl, ?_⟩
            walk_at "wp"
            exact q _ (Same.refl _)
        · rw [decide_eq_false h1]
          walk_at "wp"
          have hpl : plB n (.int i) = false := by simp only [plB, h1, decide_false, Bool.and_false]
          unfold chgW at q
          rw [if_pos hpl] at q
          exact q _ (Same.refl _)
      · rw [decide_eq_false h0]
        walk_at "wp"
        have hpl : plB n (.int i) = false := by simp only [plB, h0, decide_false, Bool.false_and]
        unfold chgW at q
        rw [if_pos hpl] at q
        exact q _ (Same.refl _)
    | _ =>
      unfold chgW at q
      rw [if_pos (nop fun i h => by cases h)] at q
      simp only [wholeD]
      walk_at "wp"
      exact q _ (Same.refl _)
end
end Bk

namespace Bk
open PySem PySem.Spec PyProof.Rows L2
local macro_rules | `(tactic| walk_at "wp") => `(tactic| try simp only [rNinr_r, rNeN_r, rCatL_r, rSlT_r, rListOf_r, rIsB_b, rNotB_b, tFmtO, tJs, tOst, tCallS, WE, tRaise2, rOne_i, rSorD_r, tDNewK, Int.zero_add, tNever, tFor_eq, tLc_eq, iList, iTup, iRng1_eq, rRng1_i, iRng2_eq, rRng2_i, iEnum_eq, rEnum_r, iZip_eq, rZip_r, tSl, tPart, tNoPart, rSlL_r, rCat_r, rIn_r, rNin_r, rRepr_r, iRevR, rMin_r, rShr_i, rOdd_i, rSetL_r, gSub, rRg1_i, rRg2_i, rInr_r, tAug, ipI_ii, tLstRg, tRg1, tRg2, gTup_r, gUnl_r, rInt1_b, rInt1_i, rRep_r, tStep_r, scal, tSeq, tNext, tAsg, tRet, tRetN, tIfS, tDrop, tCB, tCons, tNil, tVar, tOp, tUn, tC, rU_i, rI_ii, rI0_ii, rEq, rNe, tTest, tB, tAnd, tOr, tNot, tAndV, tOrV, tNotV, tIf, tChain, tLst, tTup, tBM, tBM0, rAppend_r, rIxL_r, rIxT_r, rMx_ii, rMn_ii, rLnL_r, rLnT_r, rIsD_int, rIsD_bool, rIsD_list, rIsD_tuple, tCall, gName, gNil_n, gCons_c, cxK, L2.start, List.map, List.replicate, List.length_cons, List.length_nil, List.cons_append, List.nil_append, List.append_nil, List.getElem?_cons_zero, List.getElem?_cons_succ, Option.some.injEq, exists_eq_left', exists_eq_left, V.int.injEq, V.bl.injEq, V.str.injEq, V.ref.injEq, List.cons.injEq, and_true, true_and, and_self, List.set, wipe, rAll_r, rSum_r, reduceCtorEq, decide_true, decide_false, reduceIte, ite_true, ite_false, if_true, if_false, Bool.false_eq_true, Bool.not_true, Bool.not_false])
local macro_rules | `(tactic| walk_at "shaped") => `(tactic| (simp only [SeqAt.shaped, PyData.canLay0, PyData.canLayAll0, PyData.depth, PyData.depthAll]; rfl))
local macro_rules | `(tactic| walk_at "lay") => `(tactic| (simp only [PyData.canLay0, PyData.canLayAll0]; rfl))
local macro_rules | `(tactic| walk_at "wg") => `(tactic| try simp only [gName, gTup_r, gCons_c, gNil_n, cxK, List.set, List.cons.injEq, and_true, true_and, exists_eq_left', exists_eq_left, List.length_cons, List.length_nil])
section
variable {P : Program} {w : World} {K : PySem.W.Frag} {mg : Str → Option Value} {base : Heap}
abbrev s_thing : Stmt := top 85
theorem sc_thing : FnScope ["_law_digit", "_law_far"] ["_law_digit", "_law_far"] (defScope s_thing) := ⟨rfl, rfl, rfl, by decide +kernel, rfl, by decide +kernel, by decide +kernel⟩
def thingL (far : Int) : List PyData := [.int far, .int far, .int far, .int (10 ^ 9 + 1 + far), .int (-1 - far), .bool true, .str "5", .none, .list [.int far], .int (10 ^ 9), .dict [], .tuple [.int far]]
def spThing (K : PySem.W.Frag) : Sp := fun vs H Q _ => ∃ (i : Nat) (far : Int) (d : PyData), vs = [.int (i : Int), .int far] ∧ (thingL far)[i]? = some d ∧ ∀ H' y, Same H H' → Tk (newOf H H') y d → Q y H'
theorem ok_thing {f : Addr} {fd : FuncData} (F : Fun K "_law_thing" "_law_thing" s_thing f fd) (B : Bi mg) : FnOk P w K mg base CX0 1 f fd ["_law_digit", "_law_far"] (spThing K) := by
  refine F.ok sc_thing (fun vs H Q E h => ?_) (fun cdv A outer s H vs Q E hr h => ?_)
  · obtain ⟨_, _, _, rfl, _⟩ := h
    rfl
  · obtain ⟨i, far, d, rfl, hi, q⟩ := h
    refine ⟨_, (pss_one (ps_ret (pe_ix ix_list (pe_lst (pa_cons (pv 1) (pa_cons (pv 1) (pa_cons (pv 1) (pa_cons (pe_op op_add (pe_op op_add (pe_op op_pow pe_int pe_int) pe_int) (pv 1)) (pa_cons (pe_op op_sub (pe_un un_neg pe_int) (pv 1)) (pa_cons pe_bl (pa_cons pe_str (pa_cons pe_non (pa_cons (pe_lst (pa_cons (pv 1) pa_nil)) (pa_cons (pe_op op_pow pe_int pe_int) (pa_cons pe_dnewK (pa_cons (pe_tup (pa_cons (pv 1) pa_nil)) pa_nil))))))))))))) (pv 0) (fun _ _ => rfl)))), ?_⟩
    have S0 := Same.refl H
    have v1 : ∀ {H' : Hp} {σ : L2.St}, σ[1]? = some (some (.int far)) → Ye (IntD fun i => i = far) (tVar 1) σ H' := fun e => ye_vI e rfl
    have f1 : ∀ {H' : Hp} {σ : L2.St}, Same H H' → σ[1]? = some (some (.int far)) → Ye (EK H (.int far)) (tVar 1) σ H' := fun s e => k_ofI s (v1 e)
    refine s_ret (k_ix (K := K) (H0 := H) (ds := thingL far) (k_lst (ka_cons (f1 S0 rfl) (ka_cons (f1 S0 rfl) (ka_cons (f1 S0 rfl) (ka_cons (k_ofI S0 (ye_I0 (ye_I0 (ye_I (P := fun i => i = 10 ^ 9) (ye_i (P := fun i => i = 10) rfl) (ye_i (P := fun i => i = 9) rfl) fun i j a b => by subst a b; exact ⟨⟨by decide, by decide, by decide⟩, by decide⟩) (ye_i (P := fun i => i = 1) rfl) (P := fun i => i = 10 ^ 9 + 1) fun i j a b => by subst a b; rfl) (v1 rfl) fun i j a b => by subst a b; rfl)) (ka_cons (k_ofI S0 (ye_I0 (ye_neg (P' := fun i => i = -1) (ye_i (P := fun i => i = 1) rfl) fun i a => by subst a; rfl) (v1 rfl) fun i j a b => by subst a b; rfl)) (ka_cons (k_bl S0) (ka_cons (k_str S0) (ka_cons (k_non S0) (ka_cons (k_lst (ka_cons (f1 S0 rfl) (ka_nil S0))) (ka_cons (k_ofI S0 (ye_I (ye_i (P := fun i => i = 10) rfl) (ye_i (P := fun i => i = 9) rfl) fun i j a b => by subst a b; exact ⟨⟨by decide, by decide, by decide⟩, by decide⟩)) (ka_cons (k_dict S0) (ka_cons (k_tup (ka_cons (f1 S0 rfl) (ka_nil S0))) (ka_nil S0))))))))))))) (by show 12 ≤ 100000; decide)) (ye_vI rfl rfl) rfl hi) (fun H1 y S1 hy => q _ _ S1 hy.2)
abbrev s_part : Stmt := top 90
theorem sc_part : FnScope ["_law_digits", "_law_words"] ["_law_digits"] (defScope s_part) := ⟨rfl, rfl, rfl, by decide +kernel, rfl, by decide +kernel, by decide +kernel⟩
def partsP : List PyData := [.str "light", .str "want", .str "loaf", .str "keep", .str "fine", .str "fine", .str "Light", .str "", .str "wants", .none, .int 0, .tuple [.str "want"], .list [.str "want"], .bool true]
def spPart37 (K : PySem.W.Frag) : Sp := fun vs H Q _ => ∃ (pd : Addr) (fs : List Int) (i : Nat), vs = [.ref pd] ∧ SqL K H pd (fs.map V.int) ∧ fs[3]? = some (i : Int) ∧ i < 14 ∧ ∀ H' y d, Same H H' → Th K H' y d → Q y H'
theorem ok_part37 {f : Addr} {fd : FuncData} (F : Fun K "_law_part" "_law_part" s_part f fd) (B : Bi mg) : FnOk P w K mg base CX0 1 f fd ["_law_digits"] (spPart37 K) := by
  refine F.ok sc_part (fun vs H Q E h => ?_) (fun cdv A outer s H vs Q E hr h => ?_)
  · obtain ⟨_, _, _, rfl, _⟩ := h
    rfl
  · obtain ⟨pd, fs, i, rfl, hd, hf, hi, q⟩ := h
    refine ⟨_, (pss_cons (ps_set (i := 1) sc_part.nd rfl (Or.inl rfl) (pe_lst (pa_cons pe_str (pa_cons pe_str (pa_cons pe_str (pa_cons pe_str (pa_cons pe_str (pa_cons pe_str (pa_cons pe_str (pa_cons pe_str (pa_cons pe_str (pa_cons pe_non (pa_cons pe_int (pa_cons (pe_tup (pa_cons pe_str pa_nil)) (pa_cons (pe_lst (pa_cons pe_str pa_nil)) (pa_cons pe_bl pa_nil))))))))))))))))
 (pss_one (ps_ret (pe_ix ix_list (pv 1) (pe_ix ix_list (pv 0) pe_int (fun _ _ => rfl)) (fun _ _ => rfl))))), ?_⟩
    have S0 := Same.refl H
    have hp : partsP[i]? = some (partsP[i]'hi) := List.getElem?_eq_getElem hi
    refine s_asg (k_lst (H0 := H) (ds := partsP) (ka_cons (k_str S0) (ka_cons (k_str S0) (ka_cons (k_str S0) (ka_cons (k_str S0) (ka_cons (k_str S0) (ka_cons (k_str S0) (ka_cons (k_str S0) (ka_cons (k_str S0) (ka_cons (k_str S0) (ka_cons (k_non S0) (ka_cons (k_int S0) (ka_cons (k_tup (ka_cons (k_str S0) (ka_nil S0))) (ka_cons (k_lst (ka_cons (k_str S0) (ka_nil S0))) (ka_cons (k_bl S0) (ka_nil S0))))))))))))))) (by decide)) (fun H1 y S1 hy => ?_)
    exact s_ret (k_ix (H0 := H) (ds := partsP) (ye_var grow_ek rfl hy) (ye_dig (k := 0) rfl (S1.seq hd) hf) rfl hp) (fun H2 v S2 hv => q _ _ _ (S1.trans S2) hv.th)
abbrev s_row : Stmt := top 87
theorem sc_row : FnScope ["_law_digits", "_law_row_here", "_law_digit"] ["_law_digits"] (defScope s_row) := ⟨rfl, rfl, rfl, by decide +kernel, rfl, by decide +kernel, by decide +kernel⟩
def spRow37 (K : PySem.W.Frag) : Sp := fun vs H Q _ => ∃ (pd : Addr) (f0 f1 f2 : Int) (i3 i4 i5 i6 i7 : Nat), vs = [.ref pd] ∧ SqL K H pd ([f0, f1, f2, i3, i4, i5, i6, i7].map V.int) ∧ 0 ≤ f1 ∧ i4 < 12 ∧ i5 < 12 ∧ i6 < 12 ∧ i7 < 12 ∧ ∀ H' y d, Same H H' → Tk (newOf H H') y d → Q y H'
theorem ok_row37 {f : Addr} {fd : FuncData} (F : Fun K "_law_row" "_law_row" s_row f fd) (B : Bi mg) (D_thing : Def P w K mg base "_law_thing" 1 ["_law_digit", "_law_far"] (spThing K)) : FnOk P w K mg base CX0 2 f fd ["_law_digits"] (spRow37 K) := by
  refine F.ok sc_row (fun vs H Q E h => ?_) (fun cdv A outer s H vs Q E hr h => ?_)
  · obtain ⟨_, _, _, _, _, _, _, _, _, rfl, _⟩ := h
    rfl
  · obtain ⟨pd, f0, f1, f2, i3, i4, i5, i6, i7, rfl, hd, hf1, h4, h5, h6, h7, q⟩ := h
    refine ⟨_, (pss_cons (ps_set (i := 1) sc_row.nd rfl (Or.inl rfl) (pe_callTy call_tuple_of (by rfl) B.tuple (by decide +kernel) (pa_cons (pe_lc (own := [("_law_digit", 2)]) (g := (gName 2)) (te := (tCall _ _ _ (tCons (tOp (rIxL K) _ (tOp _ (tOp (rIxL K) _ _) _)) (tCons _ tNil)))) rfl sc_row.nd (pi_list (pe_slice sl_list (pv 0) (po_some pe_int) (po_some pe_int))) (blkOk_by (own := [("_law_digit", 2)]) (N := ["_law_digits", "_law_row_here", "_law_digit"]) (sc := defScope s_row) (by decide +kernel)) (fun _ _ _ _ _ => (pg_name (i := 2) sc_row.nd rfl (Or.inl rfl))) (fun _ _ _ _ _ => pts_nil) (fun _ _ _ _ _ => (pe_callD D_thing hr (by rfl) (pa_cons (pe_ix ix_list (pe_lst (pa_cons pe_int (pa_cons pe_int (pa_cons pe_int (pa_cons pe_int (pa_cons (pv 2) pa_nil)))))) (pe_op op_mod (pe_ix ix_list (pv 0) pe_int (fun _ _ => rfl)) pe_int) (fun _ _ => rfl)) (pa_cons pe_int pa_nil))))) pa_nil)))
 (pss_one (ps_ret (pe_ix ix_list (pe_lst (pa_cons (pv 1) (pa_cons (pv 1) (pa_cons (pv 1) (pa_cons (pe_slice sl_tupA (pv 1) po_none (po_some pe_int)) (pa_cons (pe_op op_catA (pv 1) (pe_tup (pa_cons pe_int pa_nil))) (pa_cons (pe_callTy call_list_of (by rfl) B.list (by decide +kernel) (pa_cons (pv 1) pa_nil)) (pa_cons pe_non (pa_cons pe_int (pa_cons (pe_tup (pa_cons pe_int (pa_cons pe_int (pa_cons pe_int (pa_cons pe_non pa_nil))))) pa_nil)))))))))) (pe_op op_mod (pe_ix ix_list (pv 0) pe_int (fun _ _ => rfl)) pe_int) (fun _ _ => rfl))))), ?_⟩
    refine seq1 (fun σ' H' => ∃ (r : V) (v2 : Option V) (ds : List PyData), σ' = [some (.ref pd), some r, v2] ∧ EK H (.tuple ds) H' r ∧ ds.length = 4) (fun σ1 H5 hm => ?_) (fun N hN => ?_)
    rotate_left
    · walk_at "wp"
      refine ⟨_, hd, fun p hp => ?_⟩
      rw [show cutV (List.map V.int [f0, f1, f2, i3, i4, i5, i6, i7]) (some 4) (some 8) = [.int i4, .int i5, .int i6, .int i7] from cutV_nat _ 4 8]
      have sp : Same H (upd H p (.lst [V.int i4, V.int i5, V.int i6, V.int i7])) := same_upd hp
      have hT : SqL K (upd H p (.lst [V.int i4, V.int i5, V.int i6, V.int i7])) p [V.int i4, V.int i5, V.int i6, V.int i7] := SqL.of upd_same
      generalize upd H p (.lst [V.int i4, V.int i5, V.int i6, V.int i7]) = Hb at sp hT ⊢
      refine ⟨⟨_, hT⟩, fun D hD => ?_⟩
      let sel : Nat → Nat := fun k => if f1 % 5 = 4 then k else 0
      have hsel : ∀ k : Nat, k < 12 → sel k < 12 := fun k hk => by
        show (if f1 % 5 = 4 then k else 0) < 12
        split <;> omega
      have hat : ∀ k : Nat, atI [V.int 0, V.int 0, V.int 0, V.int 0, V.int (k : Int)] (f1 % 5) = some (V.int ((sel k : Nat) : Int)) := fun k => by
        have b1 := Int.emod_nonneg f1 (show (5 : Int) ≠ 0 by decide)
        have b2 := Int.emod_lt_of_pos f1 (show (0 : Int) < 5 by decide)
        by_cases h : f1 % 5 = 4
        · rw [show sel k = k from if_pos h, h]
          exact atI_nat (j := 4) rfl
        · rw [show sel k = 0 from if_neg h]
          rcases (show f1 % 5 = 0 ∨ f1 % 5 = 1 ∨ f1 % 5 = 2 ∨ f1 % 5 = 3 by omega) with e | e | e | e <;> rw [e]
          · exact atI_nat (j := 0) rfl
          · exact atI_nat (j := 1) rfl
          · exact atI_nat (j := 2) rfl
          · exact atI_nat (j := 3) rfl
      have hth : ∀ k : Nat, k < 12 → (thingL 7)[sel k]? = some ((thingL 7).getD (sel k) .none) := fun k hk => by
        rw [List.getD_eq_getElem?_getD, List.getElem?_eq_getElem (show sel k < (thingL 7).length from hsel k hk)]
        rfl
      refine LcR.build (H := H) (walk_list (xs := [V.int i4, V.int i5, V.int i6, V.int i7])) ([i4, i5, i6, i7].map fun k => (thingL 7).getD (sel k) .none) hD rfl (by show 4 ≤ 100000; decide) (fun H s => s.seq hT) (fun _ _ _ _ y => yat_same y) (fun i x e H0 K2 hi s2 hacc yy he R hR => ?_) (fun K2 acc s2 ea ta' => ?_)
      · obtain ⟨rfl, hxi⟩ := yy
        obtain ⟨acc, eacc⟩ := hacc
        obtain ⟨k, hk, rfl, rfl⟩ : ∃ k : Nat, k < 12 ∧ x = .int (k : Int) ∧ e = (thingL 7).getD (sel k) .none := by
          have hi : i < 4 := hi
          rcases (show i = 0 ∨ i = 1 ∨ i = 2 ∨ i = 3 by omega) with rfl | rfl | rfl | rfl
          · cases hxi; cases he; exact ⟨_, h4, rfl, rfl⟩
          · cases hxi; cases he; exact ⟨_, h5, rfl, rfl⟩
          · cases hxi; cases he; exact ⟨_, h6, rfl, rfl⟩
          · cases hxi; cases he; exact ⟨_, h7, rfl, rfl⟩
        walk_at "wp"
        refine ⟨sz100 (by decide), fun p5 n5 => ?_⟩
        have S5 := same_upd (o := .lst [V.int 0, V.int 0, V.int 0, V.int 0, V.int (k : Int)]) n5
        have e5 : upd K2 p5 (.lst [V.int 0, V.int 0, V.int 0, V.int 0, V.int (k : Int)]) p5 = _ := upd_same
        generalize upd K2 p5 (.lst [V.int 0, V.int 0, V.int 0, V.int 0, V.int (k : Int)]) = K5 at S5 e5 ⊢
        refine ⟨_, _, (sp.trans (s2.trans S5)).seq hd, atI_nat (j := 1) rfl, ?_⟩
        walk_at "wp"
        refine ⟨by decide, _, _, SqL.of e5, hat k, ?_⟩
        refine ⟨sel k, 7, _, rfl, hth k hk, fun H' y S6 ty => hR _ _ (S5.trans S6) (Tk.same (fun b o e => ?_) ty)⟩
        obtain ⟨z1, z2⟩ := newOf_is e
        have nD : b ≠ D := fun z => by rw [z, S5 _ _ eacc] at z1; cases z1
        exact newBut_at (by
          cases e : H b with
          | none => rfl
          | some x => rw [S5 _ _ (s2 _ _ (sp _ _ e))] at z1; cases z1) nD nD z2
      · walk_at "wp"
        refine ⟨D, acc, rfl, .inl ⟨SqL.of ea, fun l hl => hN _ _ ⟨_, _, _, rfl, ⟨(sp.trans s2).trans (same_upd hl), .tup (newUp (sp.trans s2) hl) (ta'.same fun b o e => newOf_mono (same_upd hl) _ _ (newBut_same _ _ _ _ _ _ e))⟩, rfl⟩⟩⟩
    obtain ⟨r, v2, ds, rfl, hr1, hl⟩ := hm
    have S0 := hr1.1
    have b1 := Int.emod_nonneg (i3 : Int) (show (9 : Int) ≠ 0 by decide)
    have b2 := Int.emod_lt_of_pos (i3 : Int) (show (0 : Int) < 9 by decide)
    have rv : ∀ {H' : Hp}, Same H5 H' → Ye (EK H (.tuple ds)) (tVar 1) [some (V.ref pd), some r, v2] H' := fun s => ye_var grow_ek rfl (grow_ek _ _ _ s hr1)
    let dd : List PyData := [.tuple ds, .tuple ds, .tuple ds, .tuple (ds.take 3), .tuple (ds ++ [.int 1]), .list ds, .none, .int 5, .tuple [.int 1, .int 2, .int 3, .none]]
    have hdd : dd[((i3 : Int) % 9).toNat]? = some (dd[((i3 : Int) % 9).toNat]'(by show _ < 9; omega)) := List.getElem?_eq_getElem _
    have sr := Same.refl H5
    exact s_ret (k_ix (H0 := H) (ds := dd) (i := ((i3 : Int) % 9).toNat) (z := (i3 : Int) % 9) (k_lst (ka_cons (rv sr) (ka_cons (rv sr) (ka_cons (rv sr) (ka_cons (k_sl3 (rv sr) hl) (ka_cons (k_catT (rv sr) (k_tup (ka_cons (k_int S0) (ka_nil S0))) (fun z => by rw [z] at hl; cases hl) (by simp) (by rw [hl]; decide)) (ka_cons (k_listOf (rv sr)) (ka_cons (k_non S0) (ka_cons (k_int S0) (ka_cons (k_tup (ka_cons (k_int S0) (ka_cons (k_int S0) (ka_cons (k_int S0) (ka_cons (k_non S0) (ka_nil S0)))))) (ka_nil S0)))))))))) (by show 9 ≤ 100000; decide)) ((ye_I (P := fun i => i = (i3 : Int) % 9) (ye_dig (k := 0) (i := 3) rfl (S0.seq hd) rfl) (ye_i (P := fun i => i = 9) rfl) fun i j a b => by subst a b; exact ⟨by decide, rfl⟩)) (by omega) hdd) (fun H2 v S2 hv => q _ _ _ hv.1 hv.2)
end
end Bk

namespace Bk
open PySem PySem.Spec PyProof.Rows L2
local macro_rules | `(tactic| walk_at "wp") => `(tactic| try simp only [rReprM_r, rIsX_r, rIsXT_r, tXk, rCntB_r, rStrT_r, rGtT_r, tRaise1f, rSorTL_r, rSorTR_r, tCKw, tLc2_eq, rIntS_r, rLenS_r, rIxS_r, rInS_r, rSplit_r, iStr_eq, rNewStrs, iRng3_eq, rRng3_i, tM1, tFmt, iLT, tAugS, tScT2, rSetL_r, rSetOf2_r, rSorDT_r, rSetD, tDGet2, tDGet, tDNewT, cxW, rExtend_r, rSortU_r, rSetOf_r, rSortedSet_r, rNinr_r, rNeN_r, rCatL_r, rSlT_r, rListOf_r, rIsB_b, rNotB_b, tFmtO, tJs, tOst, tCallS, WE, tRaise2, rOne_i, rSorD_r, tDNewK, Int.zero_add, tNever, tFor_eq, tLc_eq, iList, iTup, iRng1_eq, rRng1_i, iRng2_eq, rRng2_i, iEnum_eq, rEnum_r, iZip_eq, rZip_r, tSl, tPart, tNoPart, rSlL_r, rCat_r, rIn_r, rNin_r, rRepr_r, iRevR, rMin_r, rShr_i, rOdd_i, rSetL_r, gSub, rRg1_i, rRg2_i, rInr_r, tAug, ipI_ii, tLstRg, tRg1, tRg2, gTup_r, gUnl_r, rInt1_b, rInt1_i, rRep_r, tStep_r, scal, tSeq, tNext, tAsg, tRet, tRetN, tIfS, tDrop, tCB, tCons, tNil, tVar, tOp, tUn, tC, rU_i, rI_ii, rI0_ii, rEq, rNe, tTest, tB, tAnd, tOr, tNot, tAndV, tOrV, tNotV, tIf, tChain, tLst, tTup, tBM, tBM0, rAppend_r, rIxL_r, rIxT_r, rMx_ii, rMn_ii, rLnL_r, rLnT_r, rIsD_int, rIsD_bool, rIsD_list, rIsD_tuple, tCall, gName, gNil_n, gCons_c, cxK, L2.start, List.map, List.replicate, List.length_cons, List.length_nil, List.cons_append, List.nil_append, List.append_nil, List.getElem?_cons_zero, List.getElem?_cons_succ, Option.some.injEq, exists_eq_left', exists_eq_left, V.int.injEq, V.bl.injEq, V.str.injEq, V.ref.injEq, List.cons.injEq, and_true, true_and, and_self, List.set, wipe, rAll_r, rSum_r, reduceCtorEq, decide_true, decide_false, reduceIte, ite_true, ite_false, if_true, if_false, Bool.false_eq_true, Bool.not_true, Bool.not_false])
local macro_rules | `(tactic| walk_at "shaped") => `(tactic| (simp only [rGtT_r, SeqAt.shaped, PyData.canLay0, PyData.canLayAll0, PyData.depth, PyData.depthAll]; rfl))
local macro_rules | `(tactic| walk_at "lay") => `(tactic| (simp only [rGtT_r, PyData.canLay0, PyData.canLayAll0]; rfl))
local macro_rules | `(tactic| walk_at "wg") => `(tactic| try simp only [gName, gTup_r, gCons_c, gNil_n, cxK, List.set, List.cons.injEq, and_true, true_and, exists_eq_left', exists_eq_left, List.length_cons, List.length_nil])
section
variable {P : Program} {w : World} {K : PySem.W.Frag} {mg : Str → Option Value} {base : Heap}
abbrev s_word : Stmt := top 82
theorem sc_word : FnScope ["_law_error", "_law_kinds"] ["_law_error"] (defScope s_word) := ⟨rfl, rfl, rfl, by decide +kernel, rfl, by decide +kernel, by decide +kernel⟩
/-- which of the seven errors it is, of sixteen classes -/
def w37 (i : Nat) : List Bool := [decide (i = 0), decide (i = 1), decide (i = 2), decide (i = 3), decide (i = 4), decide (i = 5), decide (i = 6), true, false, false, false, false, false, false, false, false]
def w7 (i : Nat) : List Bool := [decide (i = 0), decide (i = 1), decide (i = 2), decide (i = 3), decide (i = 4), decide (i = 5), decide (i = 6)]
def wordL : List Str := ["back", "bakery", "day", "number", "part", "plain", "many"]
def word37 (i : Nat) : Str := wordL.getD i ""
def spWord37 (K : PySem.W.Frag) (cs : List Addr) : Sp := fun vs H Q _ => ∃ (a C : Addr) (d : Option Addr) (i : Nat), vs = [.ref a] ∧ H a = some (ExK (.ref C) d a) ∧ DictIn H d ∧ Kinds K C cs (w37 i) ∧ i < 7 ∧ ∀ H', Same H H' → Q (.str (word37 i)) H'
theorem oke_word37 {f : Addr} {fd : FuncData} {C0 C1 C2 C3 C4 C5 C6 C7 C8 C9 C10 C11 C12 C13 C14 C15 : Addr} (F : Fun K "_law_word" "_law_word" s_word f fd) (B : Bi mg) (Bv : mg "ValueError" = none) (M_NoBack : mg "NoBack" = some (.ref C0)) (M_NoBakery : mg "NoBakery" = some (.ref C1)) (M_NoDay : mg "NoDay" = some (.ref C2)) (M_NoNumber : mg "NoNumber" = some (.ref C3)) (M_NoPart : mg "NoPart" = some (.ref C4)) (M_NotPlain : mg "NotPlain" = some (.ref C5)) (M_TooMany : mg "TooMany" = some (.ref C6)) (M_BakeError : mg "BakeError" = some (.ref C7)) (M_NoDays : mg "NoDays" = some (.ref C8)) (M_NoDoughs : mg "NoDoughs" = some (.ref C9)) (M_NoGood : mg "NoGood" = some (.ref C10)) (M_NoName : mg "NoName" = some (.ref C11)) (M_NoRow : mg "NoRow" = some (.ref C12)) (M_NoText : mg "NoText" = some (.ref C13)) (M_NotSteady : mg "NotSteady" = some (.ref C14)) (M_TooMuch : mg "TooMuch" = some (.ref C15)) : RunE P w K mg base 1 f fd ["_law_error"] (spWord37 K [C0, C1, C2, C3, C4, C5, C6, C7, C8, C9, C10, C11, C12, C13, C14, C15]) := by
  refine runE_of F sc_word (fun vs H Q E h => ?_) (fun cdv A a0 outer s H vs Q hr h => ?_)
  · obtain ⟨_, _, _, _, rfl, _⟩ := h
    rfl
  · obtain ⟨a, C, d, i, rfl, ha, hdi, T, hi, q⟩ := h
    refine ⟨_, (pss_cons (ps_if (PW.pt (pw_or (pt_not (pt_val (pe_callB call_isX (by rfl) B.isinstance (by decide +kernel) (pa_cons (pv 0) (pa_cons (pe_globR (by rfl) M_BakeError) pa_nil))))) (pw_or1 (pt_not (pt_val (pe_callB call_isX (by rfl) B.isinstance (by decide +kernel) (pa_cons (pv 0) (pa_cons (pe_bltn (v := .ty "ValueError") (by rfl) Bv (by decide +kernel) rfl) pa_nil)))))))) (pss_one (ps_ret pe_str)) pss_nil)
 (pss_cons (ps_if (pt_val (pe_callB call_isXT (by rfl) B.isinstance (by decide +kernel) (pa_cons (pv 0) (pa_cons (pe_tup (pa_cons (pe_globR (by rfl) M_NoDays) (pa_cons (pe_globR (by rfl) M_NoDoughs) (pa_cons (pe_globR (by rfl) M_NoGood) (pa_cons (pe_globR (by rfl) M_NoName) (pa_cons (pe_globR (by rfl) M_NoRow) (pa_cons (pe_globR (by rfl) M_NoText) (pa_cons (pe_globR (by rfl) M_NotSteady) (pa_cons (pe_globR (by rfl) M_TooMuch) pa_nil))))))))) pa_nil)))) (pss_one (ps_ret pe_str)) pss_nil)
 (pss_cons (ps_set (i := 1) sc_word.nd rfl (Or.inl rfl) (pe_lst (pa_cons (pe_callB call_isX (by rfl) B.isinstance (by decide +kernel) (pa_cons (pv 0) (pa_cons (pe_globR (by rfl) M_NoBack) pa_nil))) (pa_cons (pe_callB call_isX (by rfl) B.isinstance (by decide +kernel) (pa_cons (pv 0) (pa_cons (pe_globR (by rfl) M_NoBakery) pa_nil))) (pa_cons (pe_callB call_isX (by rfl) B.isinstance (by decide +kernel) (pa_cons (pv 0) (pa_cons (pe_globR (by rfl) M_NoDay) pa_nil))) pa_nil)))))
 (pss_cons (ps_set (i := 1) sc_word.nd rfl (Or.inl rfl) (pe_op op_catL (pv 1) (pe_lst (pa_cons (pe_callB call_isX (by rfl) B.isinstance (by decide +kernel) (pa_cons (pv 0) (pa_cons (pe_globR (by rfl) M_NoNumber) pa_nil))) (pa_cons (pe_callB call_isX (by rfl) B.isinstance (by decide +kernel) (pa_cons (pv 0) (pa_cons (pe_globR (by rfl) M_NoPart) pa_nil))) (pa_cons (pe_callB call_isX (by rfl) B.isinstance (by decide +kernel) (pa_cons (pv 0) (pa_cons (pe_globR (by rfl) M_NotPlain) pa_nil))) pa_nil))))))
 (pss_cons (ps_expr (pe_bm PySem.F.plainAttrs_list PySem.F.slot_list_append PySem.F.type_list_append mt_append (pv 1) (pa_cons (pe_callB call_isX (by rfl) B.isinstance (by decide +kernel) (pa_cons (pv 0) (pa_cons (pe_globR (by rfl) M_TooMany) pa_nil))) pa_nil)))
 (pss_cons (ps_if (pt_cmpR op_ne (pe_bm PySem.F.plainAttrs_list PySem.F.slot_list_count PySem.F.type_list_count (mt_countB hr.units) (pv 1) (pa_cons pe_bl pa_nil)) pe_int (nomark _)) (pss_one (ps_ret pe_str)) pss_nil)
 (pss_one (ps_ret (pe_ix ix_list (pe_lst (pa_cons pe_str (pa_cons pe_str (pa_cons pe_str (pa_cons pe_str (pa_cons pe_str (pa_cons pe_str (pa_cons pe_str pa_nil)))))))) (pe_bm PySem.F.plainAttrs_list PySem.F.slot_list_index PySem.F.type_list_index mt_index (pv 1) (pa_cons pe_bl pa_nil)) (fun _ _ => rfl)))))))))), ?_⟩
    obtain ⟨_, e0, t0⟩ := T.each 0 C0 rfl
    cases e0
    obtain ⟨_, e1, t1⟩ := T.each 1 C1 rfl
    cases e1
    obtain ⟨_, e2, t2⟩ := T.each 2 C2 rfl
    cases e2
    obtain ⟨_, e3, t3⟩ := T.each 3 C3 rfl
    cases e3
    obtain ⟨_, e4, t4⟩ := T.each 4 C4 rfl
    cases e4
    obtain ⟨_, e5, t5⟩ := T.each 5 C5 rfl
    cases e5
    obtain ⟨_, e6, t6⟩ := T.each 6 C6 rfl
    cases e6
    obtain ⟨_, e7, t7⟩ := T.each 7 C7 rfl
    cases e7
    obtain ⟨_, e8, t8⟩ := T.each 8 C8 rfl
    cases e8
    obtain ⟨_, e9, t9⟩ := T.each 9 C9 rfl
    cases e9
    obtain ⟨_, e10, t10⟩ := T.each 10 C10 rfl
    cases e10
    obtain ⟨_, e11, t11⟩ := T.each 11 C11 rfl
    cases e11
    obtain ⟨_, e12, t12⟩ := T.each 12 C12 rfl
    cases e12
    obtain ⟨_, e13, t13⟩ := T.each 13 C13 rfl
    cases e13
    obtain ⟨_, e14, t14⟩ := T.each 14 C14 rfl
    cases e14
    obtain ⟨_, e15, t15⟩ := T.each 15 C15 rfl
    cases e15
    have hany : PySem.W.kitAny K (.ref C) [.ref C8, .ref C9, .ref C10, .ref C11, .ref C12, .ref C13, .ref C14, .ref C15] = some false := kitAny_cons t8 (fun _ => kitAny_cons t9 (fun _ => kitAny_cons t10 (fun _ => kitAny_cons t11 (fun _ => kitAny_cons t12 (fun _ => kitAny_cons t13 (fun _ => kitAny_cons t14 (fun _ => kitAny_cons t15 (fun _ => rfl) (fun z => (by cases z))) (fun z => (by cases z))) (fun z => (by cases z))) (fun z => (by cases z))) (fun z => (by cases z))) (fun z => (by cases z))) (fun z => (by cases z))) (fun z => (by cases z))
    walk_at "wp"
    refine ⟨C, d, .ref C7, _, ha, hdi, T.T, rfl, fun _ z => z, t7, ?_⟩
    walk_at "wp"
    refine ⟨C, d, .type "ValueError", _, ha, hdi, T.T, rfl, fun _ z => z, T.base, ?_⟩
    walk_at "wp"
    refine ⟨sz100 (by decide), fun pt nt => ?_⟩
    have S1 := same_upd (o := .tup [V.ref C8, V.ref C9, V.ref C10, V.ref C11, V.ref C12, V.ref C13, V.ref C14, V.ref C15]) nt
    have E1 : upd H pt (.tup [V.ref C8, V.ref C9, V.ref C10, V.ref C11, V.ref C12, V.ref C13, V.ref C14, V.ref C15]) pt = some (.tup [V.ref C8, V.ref C9, V.ref C10, V.ref C11, V.ref C12, V.ref C13, V.ref C14, V.ref C15]) := upd_same
    generalize upd H pt (.tup [V.ref C8, V.ref C9, V.ref C10, V.ref C11, V.ref C12, V.ref C13, V.ref C14, V.ref C15]) = H1 at S1 E1 ⊢
    refine ⟨C, d, _, [.ref C8, .ref C9, .ref C10, .ref C11, .ref C12, .ref C13, .ref C14, .ref C15], false, S1 _ _ ha, hdi.same S1, T.T, E1, .cons (.own _) (.cons (.own _) (.cons (.own _) (.cons (.own _) (.cons (.own _) (.cons (.own _) (.cons (.own _) (.cons (.own _) (.nil)))))))), hany, ?_⟩
    walk_at "wp"
    have X1 := S1 _ _ ha
    have D1 := hdi.same S1
    refine ⟨C, d, .ref C0, _, X1, D1, T.T, rfl, fun _ z => z, t0, C, d, .ref C1, _, X1, D1, T.T, rfl, fun _ z => z, t1, C, d, .ref C2, _, X1, D1, T.T, rfl, fun _ z => z, t2, sz100 (by decide), fun pk nk => ?_⟩
    have S2 := same_upd (o := .lst ([decide (i = 0), decide (i = 1), decide (i = 2)].map V.bl)) nk
    have E2 : upd H1 pk (.lst ([decide (i = 0), decide (i = 1), decide (i = 2)].map V.bl)) pk = some (.lst ([decide (i = 0), decide (i = 1), decide (i = 2)].map V.bl)) := upd_same
    have hE : (HO.lst [V.bl (decide (i = 0)), V.bl (decide (i = 1)), V.bl (decide (i = 2))]) = .lst ([decide (i = 0), decide (i = 1), decide (i = 2)].map V.bl) := rfl
    rw [hE]
    generalize upd H1 pk (.lst ([decide (i = 0), decide (i = 1), decide (i = 2)].map V.bl)) = H2 at S2 E2 ⊢
    have X2 := S2 _ _ X1
    have D2 := D1.same S2
    refine ⟨C, d, .ref C3, _, X2, D2, T.T, rfl, fun _ z => z, t3, C, d, .ref C4, _, X2, D2, T.T, rfl, fun _ z => z, t4, C, d, .ref C5, _, X2, D2, T.T, rfl, fun _ z => z, t5, sz100 (by decide), fun pm nm => ?_⟩
    have hE2 : (HO.lst [V.bl (decide (i = 3)), V.bl (decide (i = 4)), V.bl (decide (i = 5))]) = .lst ([decide (i = 3), decide (i = 4), decide (i = 5)].map V.bl) := rfl
    rw [hE2]
    have S3 := same_upd (o := .lst ([decide (i = 3), decide (i = 4), decide (i = 5)].map V.bl)) nm
    have E3 : upd H2 pm (.lst ([decide (i = 3), decide (i = 4), decide (i = 5)].map V.bl)) pm = some (.lst ([decide (i = 3), decide (i = 4), decide (i = 5)].map V.bl)) := upd_same
    generalize upd H2 pm (.lst ([decide (i = 3), decide (i = 4), decide (i = 5)].map V.bl)) = H3 at S3 E3 ⊢
    refine ⟨_, _, SqL.of (S3 _ _ E2), SqL.of E3, sz100 (by simp), fun pc nc => ?_⟩
    rw [← List.map_append]
    have S4 := same_upd (o := .lst (([decide (i = 0), decide (i = 1), decide (i = 2)] ++ [decide (i = 3), decide (i = 4), decide (i = 5)]).map V.bl)) nc
    have E4 : upd H3 pc (.lst (([decide (i = 0), decide (i = 1), decide (i = 2)] ++ [decide (i = 3), decide (i = 4), decide (i = 5)]).map V.bl)) pc = some (.lst (([decide (i = 0), decide (i = 1), decide (i = 2)] ++ [decide (i = 3), decide (i = 4), decide (i = 5)]).map V.bl)) := upd_same
    generalize upd H3 pc (.lst (([decide (i = 0), decide (i = 1), decide (i = 2)] ++ [decide (i = 3), decide (i = 4), decide (i = 5)]).map V.bl)) = H4 at S4 E4 ⊢
    walk_at "wp"
    have S13 : Same H H3 := S1.trans (S2.trans S3)
    have npc : H pc = none := by
      cases e : H pc with
      | none => rfl
      | some x => rw [S13 _ _ e] at nc; cases nc
    have X4 := (S3.trans S4) _ _ X2
    have D4 := D2.same (S3.trans S4)
    have E5 : upd H4 pc (.lst (([decide (i = 0), decide (i = 1), decide (i = 2)] ++ [decide (i = 3), decide (i = 4), decide (i = 5)]).map V.bl ++ [V.bl (decide (i = 6))])) pc = some (.lst ((w7 i).map V.bl)) := upd_same
    refine ⟨tyL (SqL.of E4), C, d, .ref C6, _, X4, D4, T.T, rfl, fun _ z => z, t6, _, E4, by simp only [List.length_map, List.length_append, List.length_cons, List.length_nil]; rw [sizeLine_eq]; omega, tyL (SqL.of E5), w7 i, SqL.of E5, ?_⟩
    have S6 : Same H (upd H4 pc (.lst (([decide (i = 0), decide (i = 1), decide (i = 2)] ++ [decide (i = 3), decide (i = 4), decide (i = 5)]).map V.bl ++ [V.bl (decide (i = 6))]))) := same_mut (S13.trans S4) npc
    generalize upd H4 pc (.lst (([decide (i = 0), decide (i = 1), decide (i = 2)] ++ [decide (i = 3), decide (i = 4), decide (i = 5)]).map V.bl ++ [V.bl (decide (i = 6))])) = H6 at E5 S6 ⊢
    have hc : (w7 i).count true = 1 := by
      unfold w7
      rcases (show i = 0 ∨ i = 1 ∨ i = 2 ∨ i = 3 ∨ i = 4 ∨ i = 5 ∨ i = 6 by omega) with rfl | rfl | rfl | rfl | rfl | rfl | rfl <;> decide
    rw [hc]
    walk_at "wp"
    refine ⟨sz100 (by decide), fun pw nw => ?_⟩
    have S7 := same_upd (o := .lst (wordL.map V.str)) nw
    have E7 : upd H6 pw (.lst (wordL.map V.str)) pw = some (.lst (wordL.map V.str)) := upd_same
    have hW : (HO.lst [V.str (Str.ofString "back"), V.str (Str.ofString "bakery"), V.str (Str.ofString "day"), V.str (Str.ofString "number"), V.str (Str.ofString "part"), V.str (Str.ofString "plain"), V.str (Str.ofString "many")]) = .lst (wordL.map V.str) := rfl
    rw [hW]
    generalize upd H6 pw (.lst (wordL.map V.str)) = H7 at S7 E7 ⊢
    have hat : ∀ m : Nat, m < 7 → ((w7 i).map V.bl)[m]? = some (V.bl (decide (i = m))) := fun m hm => by
      rcases (show m = 0 ∨ m = 1 ∨ m = 2 ∨ m = 3 ∨ m = 4 ∨ m = 5 ∨ m = 6 by omega) with rfl | rfl | rfl | rfl | rfl | rfl | rfl <;> rfl
    refine ⟨tyL (SqL.of (S7 _ _ E5)), pc, (w7 i).map V.bl, .bl true, i, .bl true, rfl, rfl, SqL.of (S7 _ _ E5), rfl, ?_, ?_, rfl, fun m z hm hz => ?_, ?_⟩
    · rw [List.all_map]
      exact List.all_eq_true.mpr fun x _ => rfl
    · rw [hat i hi, decide_eq_true rfl]
    · rw [hat m (by omega)] at hz
      cases hz
      rw [decide_eq_false (show ¬ i = m by omega)]
      rfl
    · have hw : (wordL.map V.str)[i]? = some (.str (word37 i)) := by
        unfold word37
        rcases (show i = 0 ∨ i = 1 ∨ i = 2 ∨ i = 3 ∨ i = 4 ∨ i = 5 ∨ i = 6 by omega) with rfl | rfl | rfl | rfl | rfl | rfl | rfl <;> rfl
      exact ⟨pw, _, _, _, rfl, rfl, SqL.of E7, atI_nat hw, q _ (S6.trans S7)⟩
end
end Bk

namespace Bk
open PySem PySem.Spec PyProof.Rows L2
local macro_rules | `(tactic| walk_at "wp") => `(tactic| try simp only [tMethW, tMethWD, tMakeR, rReprM_r, rIsX_r, rIsXT_r, tXk, rCntB_r, rStrT_r, rGtT_r, tRaise1f, rSorTL_r, rSorTR_r, tCKw, tLc2_eq, rIntS_r, rLenS_r, rIxS_r, rInS_r, rSplit_r, iStr_eq, rNewStrs, iRng3_eq, rRng3_i, tM1, tFmt, iLT, tAugS, tScT2, rSetL_r, rSetOf2_r, rSorDT_r, rSetD, tDGet2, tDGet, tDNewT, cxW, rExtend_r, rSortU_r, rSetOf_r, rSortedSet_r, rNinr_r, rNeN_r, rCatL_r, rSlT_r, rListOf_r, rIsB_b, rNotB_b, tFmtO, tJs, tOst, tCallS, WE, tRaise2, rOne_i, rSorD_r, tDNewK, Int.zero_add, tNever, tFor_eq, tLc_eq, iList, iTup, iRng1_eq, rRng1_i, iRng2_eq, rRng2_i, iEnum_eq, rEnum_r, iZip_eq, rZip_r, tSl, tPart, tNoPart, rSlL_r, rCat_r, rIn_r, rNin_r, rRepr_r, iRevR, rMin_r, rShr_i, rOdd_i, rSetL_r, gSub, rRg1_i, rRg2_i, rInr_r, tAug, ipI_ii, tLstRg, tRg1, tRg2, gTup_r, gUnl_r, rInt1_b, rInt1_i, rRep_r, tStep_r, scal, tSeq, tNext, tAsg, tRet, tRetN, tIfS, tDrop, tCB, tCons, tNil, tVar, tOp, tUn, tC, rU_i, rI_ii, rI0_ii, rEq, rNe, tTest, tB, tAnd, tOr, tNot, tAndV, tOrV, tNotV, tIf, tChain, tLst, tTup, tBM, tBM0, rAppend_r, rIxL_r, rIxT_r, rMx_ii, rMn_ii, rLnL_r, rLnT_r, rIsD_int, rIsD_bool, rIsD_list, rIsD_tuple, tCall, gName, gNil_n, gCons_c, cxK, L2.start, List.map, List.replicate, List.length_cons, List.length_nil, List.cons_append, List.nil_append, List.append_nil, List.getElem?_cons_zero, List.getElem?_cons_succ, Option.some.injEq, exists_eq_left', exists_eq_left, V.int.injEq, V.bl.injEq, V.str.injEq, V.ref.injEq, List.cons.injEq, and_true, true_and, and_self, List.set, wipe, rAll_r, rSum_r, reduceCtorEq, decide_true, decide_false, reduceIte, ite_true, ite_false, if_true, if_false, Bool.false_eq_true, Bool.not_true, Bool.not_false])
local macro_rules | `(tactic| walk_at "shaped") => `(tactic| (simp only [tMethW, tMethWD, tMakeR, rGtT_r, SeqAt.shaped, PyData.canLay0, PyData.canLayAll0, PyData.depth, PyData.depthAll]; rfl))
local macro_rules | `(tactic| walk_at "lay") => `(tactic| (simp only [tMethW, tMethWD, tMakeR, rGtT_r, PyData.canLay0, PyData.canLayAll0]; rfl))
local macro_rules | `(tactic| walk_at "wg") => `(tactic| try simp only [gName, gTup_r, gCons_c, gNil_n, cxK, List.set, List.cons.injEq, and_true, true_and, exists_eq_left', exists_eq_left, List.length_cons, List.length_nil])
section
variable {P : Program} {w : World} {K : PySem.W.Frag} {mg : Str → Option Value} {base : Heap}
abbrev s_asked : Stmt := top 83
theorem sc_asked : FnScope ["_law_ledger", "_law_word_here", "_law_things", "_law_told", "e"] ["_law_ledger", "_law_word_here", "_law_things"] (defScope s_asked) := ⟨rfl, rfl, rfl, by decide +kernel, rfl, by decide +kernel, by decide +kernel⟩
/-- the base class of all errors, and how these stand to it -/
structure BaseE (K : PySem.W.Frag) (mg : Str → Option Value) (CB : Addr) (cs : List Addr) : Prop where
  g : mg "BakeError" = some (.ref CB)
  sub : ∀ c ∈ cs, PySem.W.exmOne K (.ref c) (.ref CB) = some true
/-- a day is asked to be added -/
def spAskA (K : PySem.W.Frag) (C : Addr) : Sp := fun vs H Q _ => ∃ p L D E ls g ds a x y d e, vs = [.ref p, .str "add", .ref a] ∧ Led C H p L D E ls g ds ∧ ds.length ≤ 1000 ∧ SqL K H a [x, y] ∧ Th K H x d ∧ Th K H y e ∧ (dayB e = true → ∃ t dd, y = .ref t ∧ e = dayD dd ∧ H t = some (.tup [.int dd.want, .int dd.loaf, .int dd.keep, optV dd.fine])) ∧
  (addW d e ls.length ≠ "told" → ∀ H', Same H H' → Q (.str (addW d e ls.length)) H') ∧ (addW d e ls.length = "told" → ∀ z dd, d = .int z → e = dayD dd → ∀ H', Same (but [L, D, E] H) (but [L, D, E] H') → Led C H' p L D E (ls ++ [z]) (addG g dd) (ds ++ [none]) → Q (.str "told") H')
/-- a part is asked to be changed -/
def spAskC (K : PySem.W.Frag) (C : Addr) : Sp := fun vs H Q _ => ∃ p L D E ls g ds a x y v d e u, vs = [.ref p, .str "change", .ref a] ∧ Led C H p L D E ls g ds ∧ ds.length ≤ 1000 ∧ SqL K H a [x, y, v] ∧ Th K H x d ∧ Th K H y e ∧ Th K H v u ∧
  (chgW ls.length d e u ≠ "told" → ∀ H', Same H H' → Q (.str (chgW ls.length d e u)) H') ∧ (chgW ls.length d e u = "told" → ∀ (i : Nat) s o, d = .int (i : Int) → e = .str s → u = optD o → i < ls.length → partB s = true → worthB s o = true → ∀ H', Same (but [L, D, E] H) (but [L, D, E] H') → Led C H' p L D E (setLs ls i s o) (setGd g i s o) (ds ++ [some (i, s, worthL ls g i s)]) → Q (.str "told") H')
/-- the same without a number -/
def spAskS (K : PySem.W.Frag) (C : Addr) : Sp := fun vs H Q _ => ∃ p L D E ls g ds a x y d e, vs = [.ref p, .str "short", .ref a] ∧ Led C H p L D E ls g ds ∧ SqL K H a [x, y] ∧ Th K H x d ∧ Th K H y e ∧ chgW ls.length d e .none ≠ "told" ∧ ∀ H', Same H H' → Q (.str (chgW ls.length d e .none)) H'
/-- the last deed is asked to be taken back -/
def spAskB (K : PySem.W.Frag) (C : Addr) : Sp := fun vs H Q _ => ∃ p L D E ls g ds a, vs = [.ref p, .str "back", .ref a] ∧ Led C H p L D E ls g ds ∧ ((ds = [] ∧ ∀ H', Same H H' → Q (.str "back") H') ∨ (∃ ds', ds = ds' ++ [none] ∧ 2 ≤ ls.length ∧ ∀ H', Same (but [L, D, E] H) (but [L, D, E] H') → Led C H' p L D E ls.dropLast (dropG g) ds' → Q (.str "told") H') ∨
  ∃ ds' i s o, ds = ds' ++ [some (i, s, o)] ∧ i < ls.length ∧ partB s = true ∧ worthB s o = true ∧ ∀ H', Same (but [L, D, E] H) (but [L, D, E] H') → Led C H' p L D E (setLs ls i s o) (setGd g i s o) ds' → Q (.str "told") H')
/-- a ledger is asked for -/
def spAskL (K : PySem.W.Frag) : Sp := fun vs H Q _ => ∃ p a x d, vs = [p, .str "ledger", .ref a] ∧ SqL K H a [x] ∧ Th K H x d ∧ (((∃ u v, wrongD d = some (u, v)) ∧ ∀ H', Same H H' → Q (.str "bakery") H') ∨ ((∃ b, d = bakD b ∧ bakB d = true ∧ plainO b = false) ∧ ∀ H', Same H H' → Q (.str "plain") H'))
def spAsk37 (K : PySem.W.Frag) (C : Addr) : Sp := fun vs H Q E => spAskA K C vs H Q E ∨ spAskC K C vs H Q E ∨ spAskS K C vs H Q E ∨ spAskB K C vs H Q E ∨ spAskL K vs H Q E
theorem worthA_is {s : Str} {u : PyData} (h : worthA s u = true) : ∃ o, u = optD o := by
  cases u with
  | none => exact ⟨none, rfl⟩
  | int i => exact ⟨some i, rfl⟩
  | _ =>
    unfold worthA at h
    rw [show noneD _ = false from rfl, Bool.and_false, Bool.or_false] at h
    cases h
theorem ok_asked37 {f CL : Addr} {fd : FuncData} {C0 C1 C2 C3 C4 C5 C6 C7 C8 C9 C10 C11 C12 C13 C14 C15 : Addr} (F : Fun K "_law_asked" "_law_asked" s_asked f fd) (BE : BaseE K mg C7 [C0, C1, C2, C3, C4, C5, C6]) (T0 : Kinds K C0 [C0, C1, C2, C3, C4, C5, C6, C7, C8, C9, C10, C11, C12, C13, C14, C15] (w37 0)) (T1 : Kinds K C1 [C0, C1, C2, C3, C4, C5, C6, C7, C8, C9, C10, C11, C12, C13, C14, C15] (w37 1)) (T2 : Kinds K C2 [C0, C1, C2, C3, C4, C5, C6, C7, C8, C9, C10, C11, C12, C13, C14, C15] (w37 2)) (T3 : Kinds K C3 [C0, C1, C2, C3, C4, C5, C6, C7, C8, C9, C10, C11, C12, C13, C14, C15] (w37 3)) (T4 : Kinds K C4 [C0, C1, C2, C3, C4, C5, C6, C7, C8, C9, C10, C11, C12, C13, C14, C15] (w37 4)) (T5 : Kinds K C5 [C0, C1, C2, C3, C4, C5, C6, C7, C8, C9, C10, C11, C12, C13, C14, C15] (w37 5)) (T6 : Kinds K C6 [C0, C1, C2, C3, C4, C5, C6, C7, C8, C9, C10, C11, C12, C13, C14, C15] (w37 6))
    (TW_add : MetX P w K mg base 4 CL "add" (spLAddX K CL C3 C2 C6)) (TW_change : MetX P w K mg base 12 CL "change" (spLChgX K CL C3 C2 C4)) (TD_change : MetXD P w K mg base 12 CL "change" (spLChgR K CL C3 C2 C4) [.non]) (TW_back : MetX P w K mg base 12 CL "back" (spLBackX K CL C0)) (MR_Ledger : MakeR P w K mg base "Ledger" 9 CL (spLInitR K C1 C5)) (D_word : DefE P w K mg base "_law_word" 1 ["_law_error"] (spWord37 K [C0, C1, C2, C3, C4, C5, C6, C7, C8, C9, C10, C11, C12, C13, C14, C15])) : FnOk P w K mg base CX0 13 f fd ["_law_ledger", "_law_word_here", "_law_things"] (spAsk37 K CL) := by
  refine F.ok sc_asked (fun vs H Q E h => ?_) (fun cdv A outer s H vs Q E hr h => ?_)
  · rcases h with ⟨_, _, _, _, _, _, _, _, _, _, _, _, rfl, _⟩ | ⟨_, _, _, _, _, _, _, _, _, _, _, _, _, _, rfl, _⟩ | ⟨_, _, _, _, _, _, _, _, _, _, _, _, rfl, _⟩ | ⟨_, _, _, _, _, _, _, _, rfl, _⟩ | ⟨_, _, _, _, rfl, _⟩ <;> rfl
  · obtain ⟨vp, vw, va, rfl⟩ : ∃ vp vw va, vs = [vp, vw, va] := by
      rcases h with ⟨_, _, _, _, _, _, _, _, _, _, _, _, rfl, _⟩ | ⟨_, _, _, _, _, _, _, _, _, _, _, _, _, _, rfl, _⟩ | ⟨_, _, _, _, _, _, _, _, _, _, _, _, rfl, _⟩ | ⟨_, _, _, _, _, _, _, _, rfl, _⟩ | ⟨_, _, _, _, rfl, _⟩ <;> exact ⟨_, _, _, rfl⟩
    refine ⟨_, (pss_cons (ps_set (i := 3) sc_asked.nd rfl (Or.inl rfl) pe_str)
 (pss_cons (ps_try_keepT (i := 4) (tb := fun W => tIfS (tTest (tOp rEq (tVar 1) (tC (.str "add")))) (tDrop (tMethW CL "add" (spLAddX K CL C3 C2 C6) (WE W) (tVar 0) (tCons (tOp (rIxL K) (tVar 2) (tC (.int 0))) (tCons (tOp (rIxL K) (tVar 2) (tC (.int 1))) tNil)))) (tIfS (tTest (tOp rEq (tVar 1) (tC (.str "change")))) (tDrop (tMethW CL "change" (spLChgX K CL C3 C2 C4) (WE W) (tVar 0) (tCons (tOp (rIxL K) (tVar 2) (tC (.int 0))) (tCons (tOp (rIxL K) (tVar 2) (tC (.int 1))) (tCons (tOp (rIxL K) (tVar 2) (tC (.int 2))) tNil))))) (tIfS (tTest (tOp rEq (tVar 1) (tC (.str "short")))) (tDrop (tMethWD CL "change" (spLChgR K CL C3 C2 C4) [.non] (WE W) (tVar 0) (tCons (tOp (rIxL K) (tVar 2) (tC (.int 0))) (tCons (tOp (rIxL K) (tVar 2) (tC (.int 1))) tNil)))) (tIfS (tTest (tOp rEq (tVar 1) (tC (.str "back")))) (tDrop (tMethW CL "back" (spLBackX K CL C0) (WE W) (tVar 0) tNil)) (tDrop (tMakeR CL (spLInitR K C1 C5) (WE W) (tCons (tOp (rIxL K) (tVar 2) (tC (.int 0))) tNil))))))) (ts := fun _ _ _ => tAsg (tCall (spWord37 K [C0, C1, C2, C3, C4, C5, C6, C7, C8, C9, C10, C11, C12, C13, C14, C15]) [] E0 (tCons (tVar 4) tNil)) (gName 3)) (Wout := fun _ _ _ _ => False) rfl rfl sc_asked.nd rfl rfl ⟨rfl, by decide, Or.inl BE.g⟩ takes0 (fun W pn xe tk _ => (pss_one (ps_if (pt_cmpR op_eq (pv 1) pe_str (nomark _)) (pss_one (ps_expr (pe_mtW TW_add tk hr (by omega) (pv 0) (pa_cons (pe_ix ix_list (pv 2) pe_int (fun _ _ => rfl)) (pa_cons (pe_ix ix_list (pv 2) pe_int (fun _ _ => rfl)) pa_nil))))) (pss_one (ps_if (pt_cmpR op_eq (pv 1) pe_str (nomark _)) (pss_one (ps_expr (pe_mtW TW_change tk hr (by omega) (pv 0) (pa_cons (pe_ix ix_list (pv 2) pe_int (fun _ _ => rfl)) (pa_cons (pe_ix ix_list (pv 2) pe_int (fun _ _ => rfl)) (pa_cons (pe_ix ix_list (pv 2) pe_int (fun _ _ => rfl)) pa_nil)))))) (pss_one (ps_if (pt_cmpR op_eq (pv 1) pe_str (nomark _)) (pss_one (ps_expr (pe_mtWD TD_change tk hr (by omega) (pv 0) (pa_cons (pe_ix ix_list (pv 2) pe_int (fun _ _ => rfl)) (pa_cons (pe_ix ix_list (pv 2) pe_int (fun _ _ => rfl)) pa_nil))))) (pss_one (ps_if (pt_cmpR op_eq (pv 1) pe_str (nomark _)) (pss_one (ps_expr (pe_mtW0 TW_back tk hr (by omega) (pv 0)))) (pss_one (ps_expr (pe_mkR MR_Ledger tk hr (by rfl) (pa_cons (pe_ix ix_list (pv 2) pe_int (fun _ _ => rfl)) pa_nil))))))))))))) (fun a oe cls d pn hz hf => (pss_one (ps_set (i := 3) sc_asked.nd rfl (Or.inl rfl) (pe_callDE D_word hr (by rfl) (pa_cons (pv 4) pa_nil))))))
 (pss_one (ps_ret (pv 3))))), ?_⟩
    walk_at "wp"
    generalize hEw : WE (wKeepT K (Value.ref C7) 4 _ _ _) [some vp, some vw, some va, some (V.str (Str.ofString "told")), none] = Ew
    have hE : ∀ (j : Nat) (C : Addr) (dd : Option Addr) (H' : Hp), Same H H' → DictIn H' dd → PySem.W.exmOne K (.ref C) (.ref C7) = some true → Kinds K C [C0, C1, C2, C3, C4, C5, C6, C7, C8, C9, C10, C11, C12, C13, C14, C15] (w37 j) → j < 7 → (∀ H'', Same H H'' → Q (.str (word37 j)) H'') → Ew (.ref C) dd H' := fun j C dd H' sH hdd hex T hj hq => by
      rw [← hEw]
      refine ⟨true, hex, fun z => (by cases z), fun _ a ha => ?_⟩
      walk_at "wp"
      have S1 := same_upd (o := ExK (.ref C) dd a) ha
      refine ⟨a, C, dd, j, rfl, upd_same, hdd.same S1, T, hj, fun H2 S2 => ?_⟩
      walk_at "wp"
      exact hq _ (sH.trans (S1.trans S2))
    have m := fun c hc => BE.sub c hc
    have m0 := m C0 (by simp)
    have m1 := m C1 (by simp)
    have m2 := m C2 (by simp)
    have m3 := m C3 (by simp)
    have m4 := m C4 (by simp)
    have m5 := m C5 (by simp)
    have m6 := m C6 (by simp)
    rcases h with ⟨p, L, D, E', ls, g, ds, a, x, y, d, e, e0, hL, hds, ha, hx, hy, htk, q1, q2⟩ | ⟨p, L, D, E', ls, g, ds, a, x, y, v, d, e, u, e0, hL, hds, ha, hx, hy, hv, q1, q2⟩ | ⟨p, L, D, E', ls, g, ds, a, x, y, d, e, e0, hL, ha, hx, hy, hne, q⟩ | ⟨p, L, D, E', ls, g, ds, a, e0, hL, hq⟩ | ⟨p, a, x, d, e0, ha, hx, hq⟩
    · cases e0
      walk_at "wp"
      refine ⟨hL.isObj, _, _, ha, atI_nat (j := 0) rfl, ?_⟩
      refine ⟨_, _, ha, atI_nat (j := 1) rfl, ?_⟩
      unfold addW at q1 q2
      cases h1 : numD d with
      | false =>
        rw [if_pos h1] at q1
        exact .inr ⟨p, L, D, E', ls, g, ds, x, y, d, e, rfl, hL, hx, hy, .inl ⟨h1, fun H' S => hE 3 C3 none H' S trivial m3 T3 (by decide) (q1 (by decide))⟩⟩
      | true =>
        rw [if_neg (by rw [h1]; decide)] at q1 q2
        cases h2 : dayB e with
        | false =>
          rw [if_pos h2] at q1
          exact .inr ⟨p, L, D, E', ls, g, ds, x, y, d, e, rfl, hL, hx, hy, .inr (.inl ⟨h1, h2, fun H' S => hE 2 C2 none H' S trivial m2 T2 (by decide) (q1 (by decide))⟩)⟩
        | true =>
          rw [if_neg (by rw [h2]; decide)] at q1 q2
          have h40 := (bak_parts hL.ok).1.2
          dsimp only at h40
          by_cases h3 : ls.length = 40
          · rw [if_pos h3] at q1
            exact .inr ⟨p, L, D, E', ls, g, ds, x, y, d, e, rfl, hL, hx, hy, .inr (.inr ⟨h1, h2, by omega, fun H' S => hE 6 C6 none H' S trivial m6 T6 (by decide) (q1 (by decide))⟩)⟩
          · rw [if_neg h3] at q2
            obtain ⟨t, dd, rfl, rfl, ht⟩ := htk h2
            obtain ⟨z, rfl⟩ := numD_int h1
            cases hx
            exact .inl ⟨p, L, D, E', ls, g, ds, z, t, dd, rfl, hL, hds, ht, h1, h2, by omega, fun H' S hL' => q2 rfl z dd rfl rfl H' S hL'⟩
    · cases e0
      walk_at "wp"
      refine ⟨hL.isObj, _, _, ha, atI_nat (j := 0) rfl, ?_⟩
      refine ⟨_, _, ha, atI_nat (j := 1) rfl, ?_⟩
      refine ⟨_, _, ha, atI_nat (j := 2) rfl, ?_⟩
      unfold chgW at q1 q2
      cases h1 : plB ls.length d with
      | false =>
        rw [if_pos h1] at q1
        exact .inr ⟨p, L, D, E', ls, g, ds, x, y, v, d, e, u, rfl, hL, hx, hy, hv, .inl ⟨h1, fun H' S => hE 2 C2 none H' S trivial m2 T2 (by decide) (q1 (by decide))⟩⟩
      | true =>
        rw [if_neg (by rw [h1]; decide)] at q1 q2
        cases h2 : partD e with
        | false =>
          rw [if_pos h2] at q1
          exact .inr ⟨p, L, D, E', ls, g, ds, x, y, v, d, e, u, rfl, hL, hx, hy, hv, .inr (.inl ⟨h1, h2, fun H' S => hE 4 C4 none H' S trivial m4 T4 (by decide) (q1 (by decide))⟩)⟩
        | true =>
          rw [if_neg (by rw [h2]; decide)] at q1 q2
          obtain ⟨s, rfl⟩ : ∃ s, e = .str s := by
            cases e with
            | str s => exact ⟨s, rfl⟩
            | _ => cases h2
          have q1 : (if worthA s u = true then ("told" : Str) else "number") ≠ "told" → ∀ H', Same H H' → Q (.str (if worthA s u = true then ("told" : Str) else "number")) H' := q1
          cases h3 : worthA s u with
          | false =>
            rw [if_neg (by rw [h3]; decide)] at q1
            exact .inr ⟨p, L, D, E', ls, g, ds, x, y, v, d, _, u, rfl, hL, hx, hy, hv, .inr (.inr ⟨s, h1, rfl, h2, h3, fun H' S => hE 3 C3 none H' S trivial m3 T3 (by decide) (q1 (by decide))⟩)⟩
          | true =>
            obtain ⟨i, rfl, hi⟩ := plB_nat h1
            obtain ⟨o, rfl⟩ := worthA_is h3
            cases hx
            cases hy
            have ev := hv.opt
            subst ev
            exact .inl ⟨p, L, D, E', ls, g, ds, i, s, o, rfl, hL, hds, hi, h2, by rw [← worthA_opt]; exact h3, fun H' r bs cs S hL' _ _ _ _ _ _ => q2 (show (if worthA s (optD o) = true then ("told" : Str) else "number") = "told" from if_pos h3) i s o rfl rfl rfl hi h2 (by rw [← worthA_opt]; exact h3) H' S hL'⟩
    · cases e0
      walk_at "wp"
      refine ⟨hL.isObj, _, _, ha, atI_nat (j := 0) rfl, ?_⟩
      refine ⟨_, _, ha, atI_nat (j := 1) rfl, ?_⟩
      refine ⟨p, L, D, E', ls, g, ds, x, y, .non, d, e, .none, rfl, hL, hx, hy, .non, ?_⟩
      unfold chgW at q hne
      cases h1 : plB ls.length d with
      | false =>
        rw [if_pos h1] at q
        exact .inl ⟨rfl, fun H' S => hE 2 C2 none H' S trivial m2 T2 (by decide) q⟩
      | true =>
        rw [if_neg (by rw [h1]; decide)] at q hne
        cases h2 : partD e with
        | false =>
          rw [if_pos h2] at q
          exact .inr (.inl ⟨rfl, rfl, fun H' S => hE 4 C4 none H' S trivial m4 T4 (by decide) q⟩)
        | true =>
          rw [if_neg (by rw [h2]; decide)] at q hne
          obtain ⟨s, rfl⟩ : ∃ s, e = .str s := by
            cases e with
            | str s => exact ⟨s, rfl⟩
            | _ => cases h2
          have q : ∀ H', Same H H' → Q (.str (if worthA s .none = true then ("told" : Str) else "number")) H' := q
          have hne : (if worthA s .none = true then ("told" : Str) else "number") ≠ "told" := hne
          cases h3 : worthA s .none with
          | false =>
            rw [if_neg (by rw [h3]; decide)] at q
            exact .inr (.inr ⟨s, rfl, rfl, h2, h3, fun H' S => hE 3 C3 none H' S trivial m3 T3 (by decide) q⟩)
          | true => exact absurd (if_pos h3) hne
    · cases e0
      walk_at "wp"
      refine ⟨hL.isObj, ?_⟩
      rcases hq with ⟨rfl, q⟩ | ⟨ds', rfl, h2, q⟩ | ⟨ds', i, s, o, rfl, hi, hs, ho, q⟩
      · exact .inr ⟨p, L, D, E', ls, g, rfl, hL, fun H' S => hE 0 C0 none H' S trivial m0 T0 (by decide) q⟩
      · exact .inl (.inr ⟨p, L, D, E', ls, g, ds', rfl, hL, h2, fun H' S hL' => q H' S hL'⟩)
      · exact .inl (.inl ⟨p, L, D, E', ls, g, ds', i, s, o, rfl, hL, hi, hs, ho, fun H' r bs cs S hL' _ _ _ _ _ _ => q H' S hL'⟩)
    · cases e0
      walk_at "wp"
      refine ⟨_, _, ha, atI_nat (j := 0) rfl, fun px dx n1 n2 n3 => ?_⟩
      have S1 : Same H (upd (upd H dx (.own px)) px (.ins CL dx [])) := (same_upd n2).trans (same_upd (by rw [upd_ne (Ne.symm n3)]; exact n1))
      refine ⟨px, x, d, rfl, hx.same S1, ?_⟩
      rcases hq with ⟨⟨u, v, hw⟩, q⟩ | ⟨⟨b, rfl, hb, hp⟩, q⟩
      · exact .inl ⟨u, v, hw, fun H' dx' s ed => hE 1 C1 (some dx') H' (S1.trans s) ⟨_, ed⟩ m1 T1 (by decide) q⟩
      · exact .inr ⟨b, rfl, hb, hp, fun H' s => hE 5 C5 none H' (S1.trans s) trivial m5 T5 (by decide) q⟩
end
end Bk

namespace Bk
open PySem PySem.Spec PyProof.Rows L2
open C8 (Met pe_mt pe_mt0)
local macro_rules | `(tactic| walk_at "wp") => `(tactic| try simp only [sFld, rIsX_r, rIsS_r, tMethW, iRng3_eq, rRng3_i, rNeN_r, iZipA_eq, rZipA_r, iEnumZip_eq, rEnumZip_r, tFld_eq, tMeth_eq, rTIx_r, tTru, tScT2, rSetL_r, rSetOf2_r, rSorDT_r, rSetD, tDGet2, tDGet, tDNewT, cxW, rExtend_r, rSortU_r, rSetOf_r, rSortedSet_r, rNinr_r, rNeN_r, rCatL_r, rSlT_r, rListOf_r, rIsB_b, rNotB_b, tFmtO, tJs, tOst, tCallS, WE, tRaise2, rOne_i, rSorD_r, tDNewK, Int.zero_add, tNever, tFor_eq, tLc_eq, iList, iTup, iRng1_eq, rRng1_i, iRng2_eq, rRng2_i, iEnum_eq, rEnum_r, iZip_eq, rZip_r, tSl, tPart, tNoPart, rSlL_r, rCat_r, rIn_r, rNin_r, rRepr_r, iRevR, rMin_r, rShr_i, rOdd_i, rSetL_r, gSub, rRg1_i, rRg2_i, rInr_r, tAug, ipI_ii, tLstRg, tRg1, tRg2, gTup_r, gUnl_r, rInt1_b, rInt1_i, rRep_r, tStep_r, scal, tSeq, tNext, tAsg, tRet, tRetN, tIfS, tDrop, tCB, tCons, tNil, tVar, tOp, tUn, tC, rU_i, rI_ii, rI0_ii, rEq, rNe, tTest, tB, tAnd, tOr, tNot, tAndV, tOrV, tNotV, tIf, tChain, tLst, tTup, tBM, tBM0, rAppend_r, rIxL_r, rIxT_r, rMx_ii, rMn_ii, rLnL_r, rLnT_r, rIsD_int, rIsD_bool, rIsD_list, rIsD_tuple, tCall, gName, gNil_n, gCons_c, cxK, L2.start, List.map, List.replicate, List.length_cons, List.length_nil, List.cons_append, List.nil_append, List.append_nil, List.getElem?_cons_zero, List.getElem?_cons_succ, Option.some.injEq, exists_eq_left', exists_eq_left, V.int.injEq, V.bl.injEq, V.str.injEq, V.ref.injEq, List.cons.injEq, and_true, true_and, and_self, List.set, wipe, rAll_r, rSum_r, reduceCtorEq, decide_true, decide_false, reduceIte, ite_true, ite_false, if_true, if_false, Bool.false_eq_true, Bool.not_true, Bool.not_false])
local macro_rules | `(tactic| walk_at "shaped") => `(tactic| (simp only [sFld, rIsX_r, rIsS_r, tMethW, iRng3_eq, rRng3_i, rNeN_r, SeqAt.shaped, PyData.canLay0, PyData.canLayAll0, PyData.depth, PyData.depthAll]; rfl))
local macro_rules | `(tactic| walk_at "lay") => `(tactic| (simp only [sFld, rIsX_r, rIsS_r, tMethW, iRng3_eq, rRng3_i, rNeN_r, PyData.canLay0, PyData.canLayAll0]; rfl))
local macro_rules | `(tactic| walk_at "wg") => `(tactic| try simp only [gName, gTup_r, gCons_c, gNil_n, cxK, List.set, List.cons.injEq, and_true, true_and, exists_eq_left', exists_eq_left, List.length_cons, List.length_nil])
section
variable {P : Program} {w : World} {K : PySem.W.Frag} {mg : Str → Option Value} {base : Heap}
theorem numD_60 {i : Int} (h : numD (.int i) = true) : i.natAbs < 10 ^ 60 := Nat.lt_trans (numD_sm h) (by decide)
theorem szd_opt {o : Option Int} (h : ∀ i, o = some i → i.natAbs < 10 ^ 60) : Szd 61 0 (optD o) := by
  cases o with
  | none => exact sm_none.mono (by decide) (by decide)
  | some i => exact sm_int (h i rfl)
theorem szd_life {o : Option Int} (h : lifeB (optD o) = true) : Szd 61 0 (optD o) := szd_opt fun i e => by
  rw [e] at h
  simp only [optD, lifeB, Bool.and_eq_true, decide_eq_true_eq] at h
  exact Nat.lt_of_le_of_lt (show i.natAbs ≤ 40 by omega) (by decide)
theorem szd_bound {o : Option Int} (h : boundB (optD o) = true) : Szd 61 0 (optD o) := szd_opt fun i e => by
  rw [e] at h
  simp only [optD, boundB, Bool.and_eq_true] at h
  exact numD_60 h.1
theorem szd_parts {d : Day} (h : dayB (dayD d) = true) : ∀ e ∈ [PyData.int d.want, .int d.loaf, .int d.keep, optD d.fine], Szd 61 0 e := by
  simp only [dayD, dayB, Bool.and_eq_true] at h
  obtain ⟨⟨⟨h1, h2⟩, h3⟩, h4⟩ := h
  intro e he
  simp only [List.mem_cons, List.not_mem_nil, or_false] at he
  rcases he with rfl | rfl | rfl | rfl
  · exact sm_int (numD_60 h1)
  · exact sm_int (numD_60 h2)
  · exact sm_int (numD_60 h3)
  · refine szd_opt fun i e => ?_
    rcases Bool.or_eq_true_iff.mp h4 with z | z
    · rw [e] at z; cases z
    · rw [e] at z; exact numD_60 z
theorem szd_day {d : Day} (h : dayB (dayD d) = true) : Szd 255 1 (dayD d) := sm_tuple (n := 4) (by show 4 ≤ 4; decide) (szd_parts h)
theorem szd_days {n : Nat} {ds : List Day} (hn : ds.length ≤ n) (h : ∀ d ∈ ds, dayB (dayD d) = true) : Szd (n * 257 + 3) 2 (.list (ds.map dayD)) := sm_list (by rw [List.length_map]; exact hn) fun x hx => by
  obtain ⟨d, hd, rfl⟩ := List.mem_map.mp hx
  exact szd_day (h d hd)
theorem szd_pair {l j : Nat} {d e : PyData} (h1 : Szd l j d) (h2 : Szd 61 0 e) (hl : 61 ≤ l) : Szd (2 * (l + 2) + 3) (j + 1) (.tuple [d, e]) := sm_tuple (n := 2) (by show 2 ≤ 2; decide) fun x hx => by
  simp only [List.mem_cons, List.not_mem_nil, or_false] at hx
  rcases hx with rfl | rfl
  · exact h1
  · exact h2.mono hl (Nat.zero_le _)
theorem szd_good {g : Good} (h1 : g.days.length ≤ 40) (h2 : lifeB (optD g.life) = true) (h3 : ∀ d ∈ g.days, dayB (dayD d) = true) : Szd 21000 3 (goodD g) := (szd_pair (szd_days h1 h3) (szd_life h2) (by decide)).mono (by decide) (by decide)
theorem szd_goods {gs : List Good} (hn : gs.length ≤ 2) (h : ∀ g ∈ gs, g.days.length ≤ 40 ∧ lifeB (optD g.life) = true ∧ ∀ d ∈ g.days, dayB (dayD d) = true) : ∀ d ∈ gs.map goodD, Szd 21000 3 d := fun x hx => by
  obtain ⟨g, hg, rfl⟩ := List.mem_map.mp hx
  obtain ⟨h1, h2, h3⟩ := h g hg
  exact szd_good h1 h2 h3
theorem szd_ints {ns : List Int} (h : ∀ z ∈ ns, numD (.int z) = true) : ∀ d ∈ ns.map PyData.int, Szd 61 0 d := fun x hx => by
  obtain ⟨z, hz, rfl⟩ := List.mem_map.mp hx
  exact sm_int (numD_60 (h z hz))
theorem szd_bak {b : Bak} (hb : bakB (bakD b) = true) : Szd 130000 5 (bakD b) := by
  obtain ⟨⟨c1, c2⟩, c3, c4, ⟨c5, c6⟩, c7⟩ := bak_parts hb
  have sG := szd_goods c6 fun g hg => ⟨Nat.le_trans (Nat.le_of_eq (c7 g hg).1) c2, (c7 g hg).2⟩
  have sGL : Szd 42007 4 (.list (b.goods.map goodD)) := sm_list (n := 2) (by rw [List.length_map]; exact c6) sG
  have sLL : Szd 2523 1 (.list (b.lights.map PyData.int)) := sm_list (n := 40) (by rw [List.length_map]; exact c2) (szd_ints c3)
  refine (sm_tuple (n := 3) (l := 42007) (j := 4) (by show 3 ≤ 3; decide) fun d hd => ?_).mono (by decide) (by decide)
  simp only [List.mem_cons, List.not_mem_nil, or_false] at hd
  rcases hd with rfl | rfl | rfl
  · exact sLL.mono (by decide) (by decide)
  · exact (szd_bound c4).mono (by decide) (by decide)
  · exact sGL
theorem nd_all {α : Type} {f : α → PyData} (h : ∀ a, (f a).hasDict = false) : ∀ l : List α, PyData.hasDictAll (l.map f) = false
  | [] => by simp only [List.map_nil, PyData.hasDictAll]
  | a :: l => by simp only [List.map_cons, PyData.hasDictAll, h a, nd_all h l, Bool.or_self]
theorem nd_opt (o : Option Int) : (optD o).hasDict = false := by
  cases o <;> simp only [optD, PyData.hasDict]
theorem nd_int (i : Int) : (PyData.int i).hasDict = false := by simp only [PyData.hasDict]
theorem nd_day (d : Day) : (dayD d).hasDict = false := by
  simp only [dayD, PyData.hasDict, PyData.hasDictAll, nd_opt, Bool.or_self]
theorem nd_good (g : Good) : (goodD g).hasDict = false := by
  simp only [goodD, PyData.hasDict, PyData.hasDictAll, nd_opt, nd_all nd_day, Bool.or_self]
theorem nd_bak (b : Bak) : (bakD b).hasDict = false := by
  simp only [bakD, PyData.hasDict, PyData.hasDictAll, nd_opt, nd_all nd_good, nd_all nd_int, Bool.or_self]
theorem row_sm {ls rs : List Int} {g : Good} (hok : bakB (bakD ⟨ls, none, [g]⟩) = true) (hl : rs.length = ls.length + 1) (hR : IsRow g (rowF ls) (rowF rs) ls.length) : ∀ z ∈ rs, z.natAbs < 10 ^ 40 := by
  obtain ⟨⟨c1, c2⟩, c3, _, _, c7⟩ := bak_parts hok
  obtain ⟨k1, k2, k3⟩ := c7 g List.mem_cons_self
  dsimp only at c1 c2 c3 k1
  have dg : ∀ d ∈ g.days, (0 ≤ d.want ∧ d.want ≤ 1000000000) ∧ (0 ≤ d.loaf ∧ d.loaf ≤ 1000000000) := fun d hd => by
    have h := k3 d hd
    simp only [dayB, dayD, numD, Bool.and_eq_true, decide_eq_true_eq] at h
    exact ⟨h.1.1.1, h.1.1.2⟩
  have nn : ∀ b, 0 ≤ rowF ls b := rowF_nonneg fun z hz => by
    have := c3 z hz
    simp only [numD, Bool.and_eq_true, decide_eq_true_eq] at this
    exact this.1
  have nu : ∀ b, rowF ls b ≤ 1000000000 := fun b => by
    unfold rowF
    rw [List.getD_eq_getElem?_getD]
    cases e : ls[b]? with
    | none => simp
    | some z =>
      have := c3 z (List.mem_of_getElem? e)
      simp only [numD, Bool.and_eq_true, decide_eq_true_eq] at this
      exact this.2
  have N : NonNegW g.days := nonNegW_of k3
  have hlf : ∀ l, g.life = some l → 0 ≤ l := fun l e => by
    rw [e] at k2
    simp only [optD, lifeB, Bool.and_eq_true, decide_eq_true_eq] at k2
    exact k2.1
  obtain ⟨row', hR', h0⟩ := row_exists g (rowF ls) ls.length (by omega) hlf nn N
  have ex := hR.ext hR'
  have up : ∀ m, m ≤ ls.length → rowF rs m ≤ (m : Int) * 2000000000000000000 := fun m => by
    induction m with
    | zero => intro _; rw [hR.zero]; decide
    | succ m ih =>
      intro hm
      have hd : g.days[m]? = some g.days[m] := List.getElem?_eq_getElem (by omega)
      obtain ⟨⟨w1, w2⟩, ⟨l1, l2⟩⟩ := dg _ (List.getElem_mem (show m < g.days.length by omega))
      generalize g.days[m] = d at hd w1 w2 l1 l2
      have h1 := hR.least m (by omega) _ (own_choice hd hlf)
      have h2 : d.want * d.loaf ≤ 1000000000 * 1000000000 := Int.mul_le_mul w2 l2 l1 (by decide)
      have h3 := nu m
      have h4 := ih (by omega)
      rw [show ((m + 1 : Nat) : Int) * 2000000000000000000 = (m : Int) * 2000000000000000000 + 2000000000000000000 by omega]
      omega
  intro z hz
  obtain ⟨m, hm, rfl⟩ := List.mem_iff_getElem.mp hz
  have e : rs[m] = rowF rs m := by
    unfold rowF
    rw [List.getD_eq_getElem?_getD, List.getElem?_eq_getElem hm]
    rfl
  rw [e]
  have h1 := up m (by omega)
  have h2 := h0 m (by omega)
  rw [← ex m (by omega)] at h2
  have h3 : (rowF rs m).natAbs ≤ 80000000000000000000 := by omega
  exact Nat.lt_of_le_of_lt h3 (by decide)
theorem rows_list {as bs : List Int} {n : Nat} (ha : as.length = n + 1) (hb : bs.length = n + 1) (h : ∀ m, m ≤ n → rowF as m = rowF bs m) : as = bs := by
  refine List.ext_getElem (by omega) fun m h1 h2 => ?_
  have := h m (by omega)
  unfold rowF at this
  rw [List.getD_eq_getElem?_getD, List.getD_eq_getElem?_getD, List.getElem?_eq_getElem h1, List.getElem?_eq_getElem h2] at this
  exact this
theorem withD_back {s : Str} {o : Option Int} {d : Day} (hs : s ∈ partsL) : withD s (worthD s d) (withD s o d) = d := by
  obtain ⟨w, l, k, f⟩ := d
  have n12 : ¬ (("loaf" : Str) = "want") := by decide +kernel
  have n13 : ¬ (("keep" : Str) = "want") := by decide +kernel
  have n14 : ¬ (("fine" : Str) = "want") := by decide +kernel
  have n23 : ¬ (("keep" : Str) = "loaf") := by decide +kernel
  have n24 : ¬ (("fine" : Str) = "loaf") := by decide +kernel
  have n34 : ¬ (("fine" : Str) = "keep") := by decide +kernel
  simp only [partsL, List.mem_cons, List.not_mem_nil, or_false] at hs
  unfold withD worthD
  rcases hs with rfl | rfl | rfl | rfl
  · simp only [if_true, Option.getD_some]
  · simp only [if_neg n12, if_true, Option.getD_some]
  · simp only [if_neg n13, if_neg n23, if_true, Option.getD_some]
  · simp only [if_neg n14, if_neg n24, if_neg n34, if_true]
theorem part_mem {s : Str} (h : partB s = true) (h1 : s ≠ "light") : s ∈ partsL := by
  unfold partB at h
  rw [decide_eq_false h1, Bool.false_or] at h
  exact of_decide_eq_true h
theorem setLs_back {ls : List Int} {g : Good} {i : Nat} {s : Str} {o : Option Int} (hi : i < ls.length) : setLs (setLs ls i s o) i s (worthL ls g i s) = ls := by
  unfold setLs worthL
  by_cases h : s = "light"
  · rw [if_pos h, if_pos h, if_pos h, List.set_set]
    show ls.set i (rowF ls i) = ls
    have e : rowF ls i = ls[i] := by
      unfold rowF
      rw [List.getD_eq_getElem?_getD, List.getElem?_eq_getElem hi]
      rfl
    rw [e, List.set_getElem_self]
  · rw [if_neg h, if_neg h]
theorem setGd_back {ls : List Int} {g : Good} {i : Nat} {s : Str} {o : Option Int} (hz : partB s = true) (hi : i < g.days.length) : setGd (setGd g i s o) i s (worthL ls g i s) = g := by
  unfold setGd worthL
  by_cases h : s = "light"
  · rw [if_pos h, if_pos h]
  · rw [if_neg h, if_neg h, if_neg h]
    have hd : g.days[i]? = some g.days[i] := List.getElem?_eq_getElem hi
    generalize hg : g.days[i] = d at hd
    rw [hd]
    dsimp only
    unfold setG
    dsimp only
    rw [List.getElem?_set_self hi]
    dsimp only
    rw [withD_back (part_mem hz h), List.set_set, ← hg, List.set_getElem_self]
theorem worth_ok {C p L D E : Addr} {H : Hp} {ls : List Int} {g : Good} {ds : List Deed} {i : Nat} {s : Str} (hL : Led C H p L D E ls g ds) (hi : i < ls.length) (hz : partB s = true) : worthB s (worthL ls g i s) = true := by
  obtain ⟨⟨c1, c2⟩, c3, c4, ⟨c5, c6⟩, c7⟩ := bak_parts hL.ok
  obtain ⟨k1, k2, k3⟩ := c7 g List.mem_cons_self
  dsimp only at k1
  unfold worthL worthB
  by_cases h : s = "light"
  · rw [if_pos h]
    have : numD (optD (some (rowF ls i))) = true := by
      have e : rowF ls i = ls[i] := by
        unfold rowF
        rw [List.getD_eq_getElem?_getD, List.getElem?_eq_getElem hi]
        rfl
      rw [e]
      exact c3 _ (List.getElem_mem hi)
    rw [this, Bool.true_or]
  · rw [if_neg h]
    have hd : g.days[i]? = some g.days[i] := List.getElem?_eq_getElem (by omega)
    have hdm := List.getElem_mem (show i < g.days.length by omega)
    generalize g.days[i] = d at hd hdm
    rw [hd]
    dsimp only
    have hdo := k3 d hdm
    simp only [dayB, dayD, Bool.and_eq_true] at hdo
    obtain ⟨⟨⟨a1, a2⟩, a3⟩, a4⟩ := hdo
    have hm := part_mem hz h
    unfold worthD
    by_cases h1 : s = "want"
    · rw [if_pos h1]
      show (numD (.int d.want) || _) = true
      rw [a1, Bool.true_or]
    · rw [if_neg h1]
      by_cases h2 : s = "loaf"
      · rw [if_pos h2]
        show (numD (.int d.loaf) || _) = true
        rw [a2, Bool.true_or]
      · rw [if_neg h2]
        by_cases h3 : s = "keep"
        · rw [if_pos h3]
          show (numD (.int d.keep) || _) = true
          rw [a3, Bool.true_or]
        · rw [if_neg h3]
          have h4 : s = "fine" := by
            simp only [partsL, List.mem_cons, List.not_mem_nil, or_false] at hm
            rcases hm with h | h | h | h
            · exact absurd h h1
            · exact absurd h h2
            · exact absurd h h3
            · exact h
          rw [decide_eq_true h4, Bool.true_and]
          cases hf : d.fine with
          | none => rw [Option.isNone_none, Bool.or_true]
          | some y =>
            rw [hf] at a4
            have a4 : (noneB (optD (some y)) || numD (optD (some y))) = true := a4
            have : noneB (optD (some y)) = false := rfl
            rw [this, Bool.false_or] at a4
            rw [a4, Bool.true_or]
theorem row_fn (g : Good) (l : Nat → Int) (n : Nat) : ∃ cs : List Int, ∀ rs : List Int, rs.length = n + 1 → IsRow g l (rowF rs) n → rs = cs := by
  by_cases h : ∃ cs : List Int, cs.length = n + 1 ∧ IsRow g l (rowF cs) n
  · obtain ⟨cs, h1, h2⟩ := h
    exact ⟨cs, fun rs h3 h4 => rows_list h3 h1 (h4.ext h2)⟩
  · exact ⟨[], fun rs h3 h4 => absurd ⟨rs, h3, h4⟩ h⟩
def DeedOk (n : Nat) (d : Deed) : Prop := ∃ i s o, d = some (i, s, o) ∧ i < n ∧ partB s = true ∧ worthB s o = true
def partAt : Nat → Str
  | 0 => "want"
  | 1 => "loaf"
  | 2 => "keep"
  | _ => "fine"
def worthAt : Nat → Day → Option Int
  | 0, d => some d.want
  | 1, d => some d.loaf
  | 2, d => some d.keep
  | _, d => d.fine
def Agr (a : Nat) (d d0 : Day) : Prop := ∀ b, b < a → b < 4 → worthAt b d = worthAt b d0
theorem Agr.all {d d0 : Day} (h : Agr 4 d d0) : d = d0 := by
  obtain ⟨w, l, k, f⟩ := d
  obtain ⟨w', l', k', f'⟩ := d0
  have h0 := h 0 (by omega) (by omega)
  have h1 := h 1 (by omega) (by omega)
  have h2 := h 2 (by omega) (by omega)
  have h3 := h 3 (by omega) (by omega)
  simp only [worthAt, Option.some.injEq] at h0 h1 h2 h3
  rw [h0, h1, h2, h3]
theorem withD_at {a : Nat} (ha : a < 4) (d0 d : Day) {b : Nat} (hb : b < 4) : worthAt b (withD (partAt a) (worthAt a d0) d) = if b = a then worthAt a d0 else worthAt b d := by
  have n12 : ¬ (("loaf" : Str) = "want") := by decide +kernel
  have n13 : ¬ (("keep" : Str) = "want") := by decide +kernel
  have n14 : ¬ (("fine" : Str) = "want") := by decide +kernel
  have n23 : ¬ (("keep" : Str) = "loaf") := by decide +kernel
  have n24 : ¬ (("fine" : Str) = "loaf") := by decide +kernel
  have n34 : ¬ (("fine" : Str) = "keep") := by decide +kernel
  unfold withD
  match a, ha with
  | 0, _ =>
    simp only [partAt, if_true]
    match b, hb with
    | 0, _ => rfl
    | 1, _ => rfl
    | 2, _ => rfl
    | 3, _ => rfl
  | 1, _ =>
    simp only [partAt, if_neg n12, if_true]
    match b, hb with
    | 0, _ => rfl
    | 1, _ => rfl
    | 2, _ => rfl
    | 3, _ => rfl
  | 2, _ =>
    simp only [partAt, if_neg n13, if_neg n23, if_true]
    match b, hb with
    | 0, _ => rfl
    | 1, _ => rfl
    | 2, _ => rfl
    | 3, _ => rfl
  | 3, _ =>
    simp only [partAt, if_neg n14, if_neg n24, if_neg n34, if_true]
    match b, hb with
    | 0, _ => rfl
    | 1, _ => rfl
    | 2, _ => rfl
    | 3, _ => rfl
theorem Agr.set {a : Nat} (ha : a < 4) {d d0 : Day} (h : Agr a d d0) : Agr (a + 1) (withD (partAt a) (worthAt a d0) d) d0 := fun b hb h4 => by
  rw [withD_at ha d0 d h4]
  by_cases e : b = a
  · rw [if_pos e, e]
  · rw [if_neg e]
    exact h b (by omega) h4
theorem Agr.skip {a : Nat} {d d0 : Day} (h : Agr a d d0) (e : worthAt a d = worthAt a d0) : Agr (a + 1) d d0 := fun b hb h4 => by
  by_cases z : b = a
  · rw [z, e]
  · exact h b (by omega) h4
end
end Bk

namespace Bk
open PySem PySem.Spec PyProof.Rows L2
open C8 (Met pe_mt pe_mt0)
local macro_rules | `(tactic| walk_at "wp") => `(tactic| try simp only [sFld, rIsX_r, rIsS_r, tMethW, iRng3_eq, rRng3_i, rNeN_r, iZipA_eq, rZipA_r, iEnumZip_eq, rEnumZip_r, tFld_eq, tMeth_eq, rTIx_r, tTru, tScT2, rSetL_r, rSetOf2_r, rSorDT_r, rSetD, tDGet2, tDGet, tDNewT, cxW, rExtend_r, rSortU_r, rSetOf_r, rSortedSet_r, rNinr_r, rNeN_r, rCatL_r, rSlT_r, rListOf_r, rIsB_b, rNotB_b, tFmtO, tJs, tOst, tCallS, WE, tRaise2, rOne_i, rSorD_r, tDNewK, Int.zero_add, tNever, tFor_eq, tLc_eq, iList, iTup, iRng1_eq, rRng1_i, iRng2_eq, rRng2_i, iEnum_eq, rEnum_r, iZip_eq, rZip_r, tSl, tPart, tNoPart, rSlL_r, rCat_r, rIn_r, rNin_r, rRepr_r, iRevR, rMin_r, rShr_i, rOdd_i, rSetL_r, gSub, rRg1_i, rRg2_i, rInr_r, tAug, ipI_ii, tLstRg, tRg1, tRg2, gTup_r, gUnl_r, rInt1_b, rInt1_i, rRep_r, tStep_r, scal, tSeq, tNext, tAsg, tRet, tRetN, tIfS, tDrop, tCB, tCons, tNil, tVar, tOp, tUn, tC, rU_i, rI_ii, rI0_ii, rEq, rNe, tTest, tB, tAnd, tOr, tNot, tAndV, tOrV, tNotV, tIf, tChain, tLst, tTup, tBM, tBM0, rAppend_r, rIxL_r, rIxT_r, rMx_ii, rMn_ii, rLnL_r, rLnT_r, rIsD_int, rIsD_bool, rIsD_list, rIsD_tuple, tCall, gName, gNil_n, gCons_c, cxK, L2.start, List.map, List.replicate, List.length_cons, List.length_nil, List.cons_append, List.nil_append, List.append_nil, List.getElem?_cons_zero, List.getElem?_cons_succ, Option.some.injEq, exists_eq_left', exists_eq_left, V.int.injEq, V.bl.injEq, V.str.injEq, V.ref.injEq, List.cons.injEq, and_true, true_and, and_self, List.set, wipe, rAll_r, rSum_r, reduceCtorEq, decide_true, decide_false, reduceIte, ite_true, ite_false, if_true, if_false, Bool.false_eq_true, Bool.not_true, Bool.not_false])
local macro_rules | `(tactic| walk_at "shaped") => `(tactic| (simp only [sFld, rIsX_r, rIsS_r, tMethW, iRng3_eq, rRng3_i, rNeN_r, SeqAt.shaped, PyData.canLay0, PyData.canLayAll0, PyData.depth, PyData.depthAll]; rfl))
local macro_rules | `(tactic| walk_at "lay") => `(tactic| (simp only [sFld, rIsX_r, rIsS_r, tMethW, iRng3_eq, rRng3_i, rNeN_r, PyData.canLay0, PyData.canLayAll0]; rfl))
local macro_rules | `(tactic| walk_at "wg") => `(tactic| try simp only [gName, gTup_r, gCons_c, gNil_n, cxK, List.set, List.cons.injEq, and_true, true_and, exists_eq_left', exists_eq_left, List.length_cons, List.length_nil])
section
variable {P : Program} {w : World} {K : PySem.W.Frag} {mg : Str → Option Value} {base : Heap}
abbrev s_right : Stmt := top 91
theorem sc_right : FnScope ["_law_ledger", "_law_digits", "_law_ahead", "_law_many", "_law_light", "_law_things", "_law_due", "_law_told", "_law_day_here"] ["_law_ledger", "_law_digits"] (defScope s_right) := ⟨rfl, rfl, rfl, by decide +kernel, rfl, by decide +kernel, by decide +kernel⟩
theorem shows_37 {ls rs : List Int} {g : Good} (hok : bakB (bakD ⟨ls, none, [g]⟩) = true) (hl : rs.length = ls.length + 1) (hR : IsRow g (rowF ls) (rowF rs) ls.length) : Shows (.list [bakD ⟨ls, none, [g]⟩, .list (rs.map PyData.int)]) := by
  have c2 := (bak_parts hok).1.2
  dsimp only at c2
  have s1 : Szd 2700 1 (.list (rs.map PyData.int)) := (sm_list (n := 41) (l := 61) (by rw [List.length_map]; omega) (fun x hx => by
    obtain ⟨z, hz, rfl⟩ := List.mem_map.mp hx
    exact sm_int (Nat.lt_trans (row_sm hok hl hR z hz) (by decide)))).mono (by decide) (by decide)
  have s2 := szd_bak hok
  have s3 : Szd 260007 6 (.list [bakD ⟨ls, none, [g]⟩, .list (rs.map PyData.int)]) := sm_list (n := 2) (l := 130000) (j := 5) (Nat.le_refl _) (fun x hx => by
    simp only [List.mem_cons, List.not_mem_nil, or_false] at hx
    rcases hx with rfl | rfl
    · exact s2
    · exact s1.mono (by decide) (by decide))
  have s4 := s3.shows (by decide) (by decide)
  exact ⟨by simp only [PyData.hasDict, PyData.hasDictAll, nd_all nd_int, nd_bak, Bool.or_self], s4.able, s4.deep, s4.short⟩
theorem addG_drop (g : Good) (d : Day) : dropG (addG g d) = g := by
  unfold dropG addG
  dsimp only
  rw [List.dropLast_concat]
theorem tk_opt {H : Hp} {y : V} {o : Option Int} (h : Tk H y (optD o)) : y = optV o := by
  cases o with
  | none => cases h; rfl
  | some i => cases h; rfl
theorem tk_day {H : Hp} {y : V} {d : Day} (h : Tk H y (dayD d)) : ∃ t, y = .ref t ∧ H t = some (.tup [.int d.want, .int d.loaf, .int d.keep, optV d.fine]) := by
  have h : Tk H y (.tuple [.int d.want, .int d.loaf, .int d.keep, optD d.fine]) := h
  cases h with
  | tup ht ha => cases ha with
  | cons h1 ha => cases ha with
  | cons h2 ha => cases ha with
  | cons h3 ha => cases ha with
  | cons h4 ha =>
    cases ha
    cases h1
    cases h2
    cases h3
    have := tk_opt h4
    subst this
    exact ⟨_, rfl, ht⟩
/-- the last deed, taken back, gives the bakery ahead of it -/
def BackOk (ls : List Int) (g : Good) (ls' : List Int) (g' : Good) (dd : Deed) : Prop :=
  (dd = none ∧ 2 ≤ ls'.length ∧ ls'.dropLast = ls ∧ dropG g' = g) ∨ ∃ i s o, dd = some (i, s, o) ∧ i < ls'.length ∧ partB s = true ∧ worthB s o = true ∧ setLs ls' i s o = ls ∧ setGd g' i s o = g
/-- what is drawn for one asking -/
structure Dg37 (K : PySem.W.Frag) (H : Hp) (pd : Addr) (f0 f2 : Int) (i1 i3 i4 i5 i6 i7 : Nat) : Prop where
  at_ : SqL K H pd ([f0, (i1 : Int), f2, i3, i4, i5, i6, i7].map V.int)
  b1 : i1 < 12
  b3 : i3 < 14
  b4 : i4 < 12
  b5 : i5 < 12
  b6 : i6 < 12
  b7 : i7 < 12
  n2 : 0 ≤ f2
def spRight37 (K : PySem.W.Frag) (C : Addr) : Sp := fun vs H Q _ => ∃ p L D E ls g ds pd, ∃ (f0 f2 : Int) (i1 i3 i4 i5 i6 i7 : Nat), vs = [.ref p, .ref pd] ∧ Led C H p L D E ls g ds ∧ ds.length ≤ 900 ∧ Dg37 K (but [L, D, E] H) pd f0 f2 i1 i3 i4 i5 i6 i7 ∧ ∀ H', Same (but [L, D, E] H) (but [L, D, E] H') → Led C H' p L D E ls g ds → Q (.bl true) H'
theorem okg_right37 {f C : Addr} {fd : FuncData} (F : Fun K "_law_right" "_law_right" s_right f fd) (B : Bi mg) (D_thing : Def P w K mg base "_law_thing" 1 ["_law_digit", "_law_far"] (spThing K)) (D_row : Def P w K mg base "_law_row" 2 ["_law_digits"] (spRow37 K)) (D_part : Def P w K mg base "_law_part" 1 ["_law_digits"] (spPart37 K)) (D_add_due : Def P w K mg base "_law_add_due" 4 ["_law_light", "_law_day_here", "_law_many"] (spAddDue K)) (D_change_due : Def P w K mg base "_law_change_due" 3 ["_law_day_here", "_law_part_here", "_law_number", "_law_many"] (spChgDue K)) (D_asked : Def P w K mg base "_law_asked" 13 ["_law_ledger", "_law_word_here", "_law_things"] (spAsk37 K C)) (T_bakery : C8.Met P w K mg base 1 C "bakery" (spLBak K C) []) (T_costs : C8.Met P w K mg base 10 C "costs" (spLCosts K C) []) : RunG P w K mg base 14 f fd ["_law_ledger", "_law_digits"] (spRight37 K C) := by
  refine runG_of F sc_right (fun vs H Q E h => ?_) (fun cdv A outer s H vs Q E hG hr h => ?_)
  · obtain ⟨_, _, _, _, _, _, _, _, _, _, _, _, _, _, _, _, rfl, _⟩ := h
    rfl
  · obtain ⟨p, L, D, E', ls, g, ds, pd, f0, f2, i1, i3, i4, i5, i6, i7, rfl, hL, hds, hD, q⟩ := h
    refine ⟨_, (pss_cons (ps_set (i := 2) sc_right.nd rfl (Or.inl rfl) (pe_callB (call_repr hG hr.units) (by rfl) B.repr (by decide +kernel) (pa_cons (pe_lst (pa_cons (pe_mt0 T_bakery hr (by omega) (pv 0)) (pa_cons (pe_mt0 T_costs hr (by omega) (pv 0)) pa_nil))) pa_nil)))
 (pss_cons (ps_set (i := 3) sc_right.nd rfl (Or.inl rfl) (pe_callB call_lnL (by rfl) B.len (by decide +kernel) (pa_cons (pe_ix ix_tup (pe_mt0 T_bakery hr (by omega) (pv 0)) pe_int (fun _ _ => rfl)) pa_nil)))
 (pss_cons (ps_if (pt_cmpR op_eq (pe_ix ix_list (pv 1) pe_int (fun _ _ => rfl)) pe_int (nomark _)) (pss_cons (ps_set (i := 4) sc_right.nd rfl (Or.inl rfl) (pe_callD D_thing hr (by rfl) (pa_cons (pe_ix ix_list (pv 1) pe_int (fun _ _ => rfl)) (pa_cons (pe_ix ix_list (pv 1) pe_int (fun _ _ => rfl)) pa_nil))))
 (pss_cons (ps_set (i := 5) sc_right.nd rfl (Or.inl rfl) (pe_lst (pa_cons (pv 4) (pa_cons (pe_callD D_row hr (by rfl) (pa_cons (pv 1) pa_nil)) pa_nil))))
 (pss_cons (ps_set (i := 6) sc_right.nd rfl (Or.inl rfl) (pe_callD D_add_due hr (by rfl) (pa_cons (pv 4) (pa_cons (pe_ix ix_list (pv 5) pe_int (fun _ _ => rfl)) (pa_cons (pv 3) pa_nil)))))
 (pss_one (ps_set (i := 7) sc_right.nd rfl (Or.inl rfl) (pe_callD D_asked hr (by rfl) (pa_cons (pv 0) (pa_cons pe_str (pa_cons (pv 5) pa_nil))))))))) (pss_cons (ps_set (i := 8) sc_right.nd rfl (Or.inl rfl) (pe_ix ix_list (pe_lst (pa_cons (pe_op op_mod (pe_ix ix_list (pv 1) pe_int (fun _ _ => rfl)) (pv 3)) (pa_cons (pe_op op_mod (pe_ix ix_list (pv 1) pe_int (fun _ _ => rfl)) (pv 3)) (pa_cons (pv 3) (pa_cons (pe_un un_neg pe_int) (pa_cons pe_bl (pa_cons pe_non (pa_cons pe_str (pa_cons (pe_lst (pa_cons pe_int pa_nil)) pa_nil))))))))) (pe_op op_mod (pe_ix ix_list (pv 1) pe_int (fun _ _ => rfl)) pe_int) (fun _ _ => rfl)))
 (pss_cons (ps_set (i := 5) sc_right.nd rfl (Or.inl rfl) (pe_lst (pa_cons (pv 8) (pa_cons (pe_callD D_part hr (by rfl) (pa_cons (pv 1) pa_nil)) (pa_cons (pe_callD D_thing hr (by rfl) (pa_cons (pe_ix ix_list (pv 1) pe_int (fun _ _ => rfl)) (pa_cons (pe_ix ix_list (pv 1) pe_int (fun _ _ => rfl)) pa_nil))) pa_nil)))))
 (pss_cons (ps_set (i := 6) sc_right.nd rfl (Or.inl rfl) (pe_callD D_change_due hr (by rfl) (pa_cons (pv 8) (pa_cons (pe_ix ix_list (pv 5) pe_int (fun _ _ => rfl)) (pa_cons (pe_ix ix_list (pv 5) pe_int (fun _ _ => rfl)) (pa_cons (pv 3) pa_nil))))))
 (pss_one (ps_set (i := 7) sc_right.nd rfl (Or.inl rfl) (pe_callD D_asked hr (by rfl) (pa_cons (pv 0) (pa_cons pe_str (pa_cons (pv 5) pa_nil))))))))))
 (pss_cons (ps_if (pt_cmpR op_ne (pv 7) (pv 6) (nomark _)) (pss_one (ps_ret pe_bl)) pss_nil)
 (pss_cons (ps_if (PW.pt (pw_and (pt_cmpR op_eq (pv 7) pe_str (nomark _)) (pw_and1 (pt_cmpR op_ne (pe_callD D_asked hr (by rfl) (pa_cons (pv 0) (pa_cons pe_str (pa_cons (pe_lst pa_nil) pa_nil)))) pe_str (nomark _))))) (pss_one (ps_ret pe_bl)) pss_nil)
 (pss_one (ps_ret (pe_cmpR op_eq (pe_callB (call_repr hG hr.units) (by rfl) B.repr (by decide +kernel) (pa_cons (pe_lst (pa_cons (pe_mt0 T_bakery hr (by omega) (pv 0)) (pa_cons (pe_mt0 T_costs hr (by omega) (pv 0)) pa_nil))) pa_nil)) (pv 2) (nomark _))))))))), ?_⟩
    obtain ⟨cs, hcs⟩ := row_fn g (rowF ls) ls.length
    refine seq2 (fun σ' H' => σ' = [some (.ref p), some (.ref pd), some (.str (PyData.list [bakD ⟨ls, none, [g]⟩, .list (cs.map PyData.int)]).shown), some (.int (ls.length : Int)), none, none, none, none, none] ∧ Same H H') (fun σ1 H1 hm => ?_) (fun N hN => ?_)
    rotate_left
    · walk_at "wp"
      refine ⟨hL.isObj, p, L, D, E', ls, g, ds, rfl, hL, fun H1 t S1 ht => ?_⟩
      have hL1 := hL.same S1
      walk_at "wp"
      refine ⟨hL1.isObj, p, L, D, E', ls, g, ds, rfl, hL1, fun H2 r rs S2 hr2 er hrl hR => ?_⟩
      obtain rfl := hcs rs hrl hR
      have hL2 := hL1.same S2
      have ht2 := (Tk.same (but_mono S2) ht).same (but_same _ _)
      walk_at "wp"
      refine ⟨sz100 (by decide), fun p1 h1 => ?_⟩
      have S3 := same_upd (o := .lst [V.ref t, V.ref r]) h1
      refine ⟨_, .lst (SqL.of upd_same) (.cons (ht2.same S3).th (.cons (.lst (SqL.of (S3 _ _ er)) (ThAll.ints rs)) .nil)), shows_37 hL.ok hrl hR, ?_⟩
      generalize upd H2 p1 (.lst [V.ref t, V.ref r]) = H3 at S3 ⊢
      have T3 := (S1.trans S2).trans S3
      have hL3 := hL2.same S3
      walk_at "wp"
      refine ⟨hL3.isObj, p, L, D, E', ls, g, ds, rfl, hL3, fun H4 t4 S4 ht4 => ?_⟩
      obtain ⟨ta, al, ga, tg, ad, xs, e1, h2, h3, _⟩ := tk_bak1 ht4
      cases e1
      walk_at "wp"
      refine ⟨_, _, SqT.of (but_same _ _ _ _ h2), atI_nat (j := 0) rfl, ?_⟩
      walk_at "wp"
      refine ⟨_, SqL.of (but_same _ _ _ _ h3), ?_⟩
      rw [List.length_map]
      exact hN _ _ ⟨rfl, T3.trans S4⟩
    obtain ⟨rfl, S1⟩ := hm
    have hL1 := hL.same S1
    have hsub : Same (but [L, D, E'] H) H := but_same _ _
    have hD1 := hsub.trans S1
    have c40 := (bak_parts hL.ok).1
    dsimp only at c40
    refine seq1 (fun σ' H' => ∃ (W : Str) (y4 y5 y8 : Option V), σ' = [some (.ref p), some (.ref pd), some (.str (PyData.list [bakD ⟨ls, none, [g]⟩, .list (cs.map PyData.int)]).shown), some (.int (ls.length : Int)), y4, y5, some (.str W), some (.str W), y8] ∧ Same (but [L, D, E'] H) (but [L, D, E'] H') ∧ ((W ≠ "told" ∧ Led C H' p L D E' ls g ds) ∨ (W = "told" ∧ ∃ ls' g' dd, Led C H' p L D E' ls' g' (ds ++ [dd]) ∧ BackOk ls g ls' g' dd))) (fun σ1 H2 hm => ?_) (fun N hN => ?_)
    rotate_left
    · walk_at "wp"
      refine ⟨_, _, hD1.seq hD.at_, atI_nat (j := 0) rfl, ?_⟩
      walk_at "wp"
      by_cases h0 : f0 = 0
      · rw [if_pos (decide_eq_true h0)]
        have hth : (thingL f2)[i1]? = some ((thingL f2)[i1]'hD.b1) := List.getElem?_eq_getElem _
        refine ⟨_, _, hD1.seq hD.at_, atI_nat (j := 1) rfl, ?_⟩
        refine ⟨_, _, hD1.seq hD.at_, atI_nat (j := 2) rfl, ?_⟩
        refine ⟨i1, f2, _, rfl, hth, fun H2 y S2 ty => ?_⟩
        generalize (thingL f2)[i1]'hD.b1 = d at ty
        walk_at "wp"
        refine ⟨pd, f0, _, f2, i3, i4, i5, i6, i7, rfl, (hD1.trans S2).seq hD.at_, by omega, hD.b4, hD.b5, hD.b6, hD.b7, fun H3 yr e S3 te => ?_⟩
        walk_at "wp"
        refine ⟨sz100 (by decide), fun p5 n5 => ?_⟩
        have S4 := same_upd (o := .lst [y, yr]) n5
        have e5 : upd H3 p5 (.lst [y, yr]) p5 = some (.lst [y, yr]) := upd_same
        generalize upd H3 p5 (.lst [y, yr]) = H4 at S4 e5 ⊢
        have hx : Th K H4 y d := ((Tk.same (newOf_same _ _) ty).same (S3.trans S4)).th
        have hy' : Tk H4 yr e := (Tk.same (newOf_same _ _) te).same S4
        refine ⟨_, _, SqL.of e5, atI_nat (j := 1) rfl, ?_⟩
        refine ⟨y, yr, d, e, ls.length, rfl, hx, hy'.th, fun H5 S5 => ?_⟩
        walk_at "wp"
        have T15 := S2.trans (S3.trans (S4.trans S5))
        refine .inl ⟨p, L, D, E', ls, g, ds, p5, y, yr, d, e, rfl, hL1.same T15, by omega, SqL.of (S5 _ _ e5), hx.same S5, (hy'.same S5).th, fun hb => ?_, fun hne H6 S6 => ?_, fun ht z dd e1 e2 H6 S6 hL6 => ?_⟩
        · obtain ⟨dd, rfl⟩ := day_of hb
          obtain ⟨t, rfl, hT⟩ := tk_day (hy'.same S5)
          exact ⟨t, dd, rfl, rfl, hT⟩
        · exact hN _ _ ⟨_, _, _, _, rfl, but_mono ((S1.trans T15).trans S6), .inl ⟨hne, (hL1.same T15).same S6⟩⟩
        · refine hN _ _ ⟨"told", _, _, _, by rw [ht], (but_mono (S1.trans T15)).trans S6, .inr ⟨rfl, _, _, _, hL6, .inl ⟨rfl, ?_, ?_, addG_drop g dd⟩⟩⟩
          · rw [List.length_append]
            show 2 ≤ ls.length + 1
            omega
          · rw [List.dropLast_concat]
      · rw [if_neg (by rw [decide_eq_true_eq]; exact h0)]
        have hn : (0 : Int) < (ls.length : Int) := by omega
        refine ⟨_, _, hD1.seq hD.at_, atI_nat (j := 2) rfl, ?_⟩
        walk_at "wp"
        refine ⟨hn, _, _, hD1.seq hD.at_, atI_nat (j := 2) rfl, ?_⟩
        walk_at "wp"
        refine ⟨hn, sz100 (by decide), fun p1 n1 => ?_⟩
        have S2 := same_upd (o := .lst [V.int 0]) n1
        have e1 : upd H1 p1 (.lst [V.int 0]) p1 = some (.lst [V.int 0]) := upd_same
        generalize upd H1 p1 (.lst [V.int 0]) = H2 at S2 e1 ⊢
        refine ⟨sz100 (by decide), fun p2 n2 => ?_⟩
        generalize hk : f2 % (ls.length : Int) = k
        have S3 := same_upd (o := .lst [V.int k, V.int k, V.int (ls.length : Int), V.int (-1), V.bl true, V.non, V.str (Str.ofString "0"), V.ref p1]) n2
        have e2 : upd H2 p2 (.lst [V.int k, V.int k, V.int (ls.length : Int), V.int (-1), V.bl true, V.non, V.str (Str.ofString "0"), V.ref p1]) p2 = some (.lst [V.int k, V.int k, V.int (ls.length : Int), V.int (-1), V.bl true, V.non, V.str (Str.ofString "0"), V.ref p1]) := upd_same
        generalize upd H2 p2 (.lst [V.int k, V.int k, V.int (ls.length : Int), V.int (-1), V.bl true, V.non, V.str (Str.ofString "0"), V.ref p1]) = H3 at S3 e2 ⊢
        refine ⟨_, _, (hD1.trans (S2.trans S3)).seq hD.at_, atI_nat (j := 1) rfl, ?_⟩
        walk_at "wp"
        have hth : ThAll K H3 [V.int k, V.int k, V.int (ls.length : Int), V.int (-1), V.bl true, V.non, V.str (Str.ofString "0"), V.ref p1] [.int k, .int k, .int (ls.length : Int), .int (-1), .bool true, .none, .str "0", .list [.int 0]] := .cons (.int _) (.cons (.int _) (.cons (.int _) (.cons (.int _) (.cons (.bl _) (.cons .non (.cons (.str _) (.cons (.lst (SqL.of (S3 _ _ e1)) (.cons (.int _) .nil)) .nil)))))))
        have b1 := Int.emod_nonneg (i1 : Int) (show (8 : Int) ≠ 0 by decide)
        have b2 := Int.emod_lt_of_pos (i1 : Int) (show (0 : Int) < 8 by decide)
        obtain ⟨x, hx1⟩ : ∃ x, ([V.int k, V.int k, V.int (ls.length : Int), V.int (-1), V.bl true, V.non, V.str (Str.ofString "0"), V.ref p1] : List V)[((i1 : Int) % 8).toNat]? = some x := ⟨_, List.getElem?_eq_getElem (show _ < 8 by omega)⟩
        obtain ⟨d, hd1, hx⟩ := hth.get hx1
        refine ⟨by decide, _, _, SqL.of e2, atI_of b1 hx1, ?_⟩
        have T3 := S2.trans S3
        refine ⟨pd, _, i3, rfl, (hD1.trans T3).seq hD.at_, rfl, hD.b3, fun H4 y e S4 hy => ?_⟩
        walk_at "wp"
        refine ⟨_, _, (hD1.trans (T3.trans S4)).seq hD.at_, atI_nat (j := 4) rfl, ?_⟩
        refine ⟨_, _, (hD1.trans (T3.trans S4)).seq hD.at_, atI_nat (j := 2) rfl, ?_⟩
        have hu : (thingL f2)[i4]? = some ((thingL f2)[i4]'hD.b4) := List.getElem?_eq_getElem _
        refine ⟨i4, f2, _, rfl, hu, fun H5 v S5 tv => ?_⟩
        generalize (thingL f2)[i4]'hD.b4 = u at tv
        walk_at "wp"
        refine ⟨sz100 (by decide), fun p5 n5 => ?_⟩
        have S6 := same_upd (o := .lst [x, y, v]) n5
        have e5 : upd H5 p5 (.lst [x, y, v]) p5 = some (.lst [x, y, v]) := upd_same
        generalize upd H5 p5 (.lst [x, y, v]) = H6 at S6 e5 ⊢
        have hx' := hx.same (S4.trans (S5.trans S6))
        have hy' := hy.same (S5.trans S6)
        have hv' := ((Tk.same (newOf_same _ _) tv).same S6).th (K := K)
        refine ⟨_, _, SqL.of e5, atI_nat (j := 1) rfl, _, _, SqL.of e5, atI_nat (j := 2) rfl, ?_⟩
        refine ⟨x, y, v, d, e, u, ls.length, rfl, hx', hy', hv', fun H7 S7 => ?_⟩
        walk_at "wp"
        have T17 := T3.trans (S4.trans (S5.trans (S6.trans S7)))
        have hL7 := hL1.same T17
        refine .inr (.inl ⟨p, L, D, E', ls, g, ds, p5, x, y, v, d, e, u, rfl, hL7, by omega, SqL.of (S7 _ _ e5), hx'.same S7, hy'.same S7, hv'.same S7, fun hne H8 S8 => ?_, fun ht i s o e1 e2 e3 hi hs ho H8 S8 hL8 => ?_⟩)
        · exact hN _ _ ⟨_, _, _, _, rfl, but_mono ((S1.trans T17).trans S8), .inl ⟨hne, hL7.same S8⟩⟩
        · have gd : i < g.days.length := by
            obtain ⟨_, _, _, _, c7⟩ := bak_parts hL.ok
            have := (c7 g List.mem_cons_self).1
            dsimp only at this
            omega
          have ls_len : (setLs ls i s o).length = ls.length := by
            have := (bak_parts hL8.ok).2.2.2.2 _ List.mem_cons_self
            unfold setLs
            split <;> simp
          exact hN _ _ ⟨"told", _, _, _, by rw [ht], (but_mono (S1.trans T17)).trans S8, .inr ⟨rfl, _, _, _, hL8, .inr ⟨i, s, _, rfl, by rw [ls_len]; exact hi, hs, worth_ok hL hi hs, setLs_back hi, setGd_back hs gd⟩⟩⟩
    obtain ⟨W, y4, y5, y8, rfl, S2, hW⟩ := hm
    refine seq2 (fun σ' H' => σ' = [some (.ref p), some (.ref pd), some (.str (PyData.list [bakD ⟨ls, none, [g]⟩, .list (cs.map PyData.int)]).shown), some (.int (ls.length : Int)), y4, y5, some (.str W), some (.str W), y8] ∧ Same (but [L, D, E'] H) (but [L, D, E'] H') ∧ Led C H' p L D E' ls g ds) (fun σ1 H3 hm => ?_) (fun N hN => ?_)
    rotate_left
    · walk_at "wp"
      rcases hW with ⟨hne, hL2⟩ | ⟨rfl, ls', g', dd, hL2, hback⟩
      · rw [decide_eq_false (show ¬ W = Str.ofString "told" from hne)]
        walk_at "wp"
        exact hN _ _ ⟨rfl, S2, hL2⟩
      · rw [if_pos (decide_eq_true rfl)]
        refine ⟨sz100 (by decide), fun p5 n5 => ?_⟩
        have S3 := same_upd (o := .lst []) n5
        generalize upd H2 p5 (.lst []) = H3 at S3 ⊢
        refine .inr (.inr (.inr (.inl ⟨p, L, D, E', ls', g', ds ++ [dd], p5, rfl, hL2.same S3, ?_⟩)))
        have S23 := S2.trans (but_mono S3)
        rcases hback with ⟨rfl, hn, e1, e2⟩ | ⟨i, s, o, rfl, hi, hs, ho, e1, e2⟩
        · refine .inr (.inl ⟨ds, rfl, hn, fun H4 S4 hL4 => ?_⟩)
          rw [e1, e2] at hL4
          walk_at "wp"
          exact hN _ _ ⟨rfl, S23.trans S4, hL4⟩
        · refine .inr (.inr ⟨ds, i, s, o, rfl, hi, hs, ho, fun H4 S4 hL4 => ?_⟩)
          rw [e1, e2] at hL4
          walk_at "wp"
          exact hN _ _ ⟨rfl, S23.trans S4, hL4⟩
    obtain ⟨rfl, S3, hL3⟩ := hm
    walk_at "wp"
    refine ⟨hL3.isObj, p, L, D, E', ls, g, ds, rfl, hL3, fun H4 t S4 ht => ?_⟩
    have hL4 := hL3.same S4
    walk_at "wp"
    refine ⟨hL4.isObj, p, L, D, E', ls, g, ds, rfl, hL4, fun H5 r rs S5 hr2 er hrl hR => ?_⟩
    obtain rfl := hcs rs hrl hR
    have hL5 := hL4.same S5
    have ht2 := (Tk.same (but_mono S5) ht).same (but_same _ _)
    walk_at "wp"
    refine ⟨sz100 (by decide), fun p1 h1 => ?_⟩
    have S6 := same_upd (o := .lst [V.ref t, V.ref r]) h1
    refine ⟨_, .lst (SqL.of upd_same) (.cons (ht2.same S6).th (.cons (.lst (SqL.of (S6 _ _ er)) (ThAll.ints rs)) .nil)), shows_37 hL.ok hrl hR, ?_⟩
    rw [decide_eq_true rfl]
    exact q _ (S3.trans (but_mono (S4.trans (S5.trans S6)))) (hL5.same S6)
end
end Bk

namespace Bk
open PySem PySem.Spec PyProof.Rows L2
open C8 (Met pe_mt pe_mt0)
local macro_rules | `(tactic| walk_at "wp") => `(tactic| try simp only [sFld, rIsX_r, rIsS_r, tMethW, iRng3_eq, rRng3_i, rNeN_r, iZipA_eq, rZipA_r, iEnumZip_eq, rEnumZip_r, tFld_eq, tMeth_eq, rTIx_r, tTru, tScT2, rSetL_r, rSetOf2_r, rSorDT_r, rSetD, tDGet2, tDGet, tDNewT, cxW, rExtend_r, rSortU_r, rSetOf_r, rSortedSet_r, rNinr_r, rNeN_r, rCatL_r, rSlT_r, rListOf_r, rIsB_b, rNotB_b, tFmtO, tJs, tOst, tCallS, WE, tRaise2, rOne_i, rSorD_r, tDNewK, Int.zero_add, tNever, tFor_eq, tLc_eq, iList, iTup, iRng1_eq, rRng1_i, iRng2_eq, rRng2_i, iEnum_eq, rEnum_r, iZip_eq, rZip_r, tSl, tPart, tNoPart, rSlL_r, rCat_r, rIn_r, rNin_r, rRepr_r, iRevR, rMin_r, rShr_i, rOdd_i, rSetL_r, gSub, rRg1_i, rRg2_i, rInr_r, tAug, ipI_ii, tLstRg, tRg1, tRg2, gTup_r, gUnl_r, rInt1_b, rInt1_i, rRep_r, tStep_r, scal, tSeq, tNext, tAsg, tRet, tRetN, tIfS, tDrop, tCB, tCons, tNil, tVar, tOp, tUn, tC, rU_i, rI_ii, rI0_ii, rEq, rNe, tTest, tB, tAnd, tOr, tNot, tAndV, tOrV, tNotV, tIf, tChain, tLst, tTup, tBM, tBM0, rAppend_r, rIxL_r, rIxT_r, rMx_ii, rMn_ii, rLnL_r, rLnT_r, rIsD_int, rIsD_bool, rIsD_list, rIsD_tuple, tCall, gName, gNil_n, gCons_c, cxK, L2.start, List.map, List.replicate, List.length_cons, List.length_nil, List.cons_append, List.nil_append, List.append_nil, List.getElem?_cons_zero, List.getElem?_cons_succ, Option.some.injEq, exists_eq_left', exists_eq_left, V.int.injEq, V.bl.injEq, V.str.injEq, V.ref.injEq, List.cons.injEq, and_true, true_and, and_self, List.set, wipe, rAll_r, rSum_r, reduceCtorEq, decide_true, decide_false, reduceIte, ite_true, ite_false, if_true, if_false, Bool.false_eq_true, Bool.not_true, Bool.not_false])
local macro_rules | `(tactic| walk_at "shaped") => `(tactic| (simp only [sFld, rIsX_r, rIsS_r, tMethW, iRng3_eq, rRng3_i, rNeN_r, SeqAt.shaped, PyData.canLay0, PyData.canLayAll0, PyData.depth, PyData.depthAll]; rfl))
local macro_rules | `(tactic| walk_at "lay") => `(tactic| (simp only [sFld, rIsX_r, rIsS_r, tMethW, iRng3_eq, rRng3_i, rNeN_r, PyData.canLay0, PyData.canLayAll0]; rfl))
local macro_rules | `(tactic| walk_at "wg") => `(tactic| try simp only [gName, gTup_r, gCons_c, gNil_n, cxK, List.set, List.cons.injEq, and_true, true_and, exists_eq_left', exists_eq_left, List.length_cons, List.length_nil])
section
variable {P : Program} {w : World} {K : PySem.W.Frag} {mg : Str → Option Value} {base : Heap}
theorem bak_one {ls : List Int} {g : Good} (h1 : 1 ≤ ls.length) (h2 : ls.length ≤ 40) (h3 : ∀ z ∈ ls, numD (.int z) = true) (h4 : g.days.length = ls.length) (h5 : lifeB (optD g.life) = true) (h6 : ∀ d ∈ g.days, dayB (dayD d) = true) : bakB (bakD ⟨ls, none, [g]⟩) = true :=
  bakB_mk h1 h2 h3 rfl (Nat.le_refl 1) (show 1 ≤ 2 by decide) (fun x hx => by
    rw [List.mem_singleton.mp hx]
    exact ⟨h4, h5, h6⟩)
def cyc {α : Type} (m : Nat) (xs : List α) : List α := (List.replicate m xs).flatten.take m
theorem cyc_len {α : Type} {m : Nat} {xs : List α} (h : 1 ≤ xs.length) : (cyc m xs).length = m := by
  unfold cyc
  rw [List.length_take, len_rep]
  have : 1 * m ≤ xs.length * m := Nat.mul_le_mul_right m h
  omega
theorem cyc_mem {α : Type} {m : Nat} {xs : List α} {x : α} (h : x ∈ cyc m xs) : x ∈ xs := mem_rep (List.mem_of_mem_take h)
theorem cyc_map {α β : Type} (f : α → β) (m : Nat) (xs : List α) : (cyc m xs).map f = cyc m (xs.map f) := by
  unfold cyc
  rw [List.map_take, List.map_flatten, List.map_replicate]
theorem cyc_tk {H : Hp} {xs : List V} {ds : List PyData} (h : TkAll H xs ds) (m : Nat) : TkAll H (cyc m xs) (cyc m ds) := by
  have : ∀ k, TkAll H (List.replicate k xs).flatten (List.replicate k ds).flatten := fun k => by
    induction k with
    | zero => exact .nil
    | succ k ih =>
      rw [List.replicate_succ, List.replicate_succ, List.flatten_cons, List.flatten_cons]
      exact k_app ih h
  exact k_take m (this m)
theorem cyc_bak {ls : List Int} {g : Good} (hb : bakB (bakD ⟨ls, none, [g]⟩) = true) {m : Nat} (h1 : 1 ≤ m) (h2 : m ≤ 40) : bakB (bakD ⟨cyc m ls, none, [⟨cyc m g.days, g.life⟩]⟩) = true ∧ (cyc m ls).length = m := by
  obtain ⟨⟨c1, c2⟩, c3, _, _, c7⟩ := bak_parts hb
  obtain ⟨c8, c9, hok⟩ := c7 g (List.mem_singleton.mpr rfl)
  dsimp only at c1 c2 c3 c8
  have e1 := cyc_len (m := m) (xs := ls) c1
  have e2 := cyc_len (m := m) (xs := g.days) (by omega)
  exact ⟨bak_one (by omega) (by omega) (fun z hz => c3 z (cyc_mem hz)) (by dsimp only; omega) c9 fun d hd => hok d (cyc_mem hd), e1⟩
theorem alloc {H : Hp} {p : Addr} (o : HO) (h : H p = none) : ∃ H', upd H p o = H' ∧ Same H H' ∧ H' p = some o := ⟨_, rfl, same_upd h, upd_same⟩
theorem tkAll_ints {H : Hp} : ∀ ns : List Int, TkAll H (ns.map V.int) (ns.map PyData.int)
  | [] => .nil
  | n :: ns => .cons (.int n) (tkAll_ints ns)
abbrev s_full : Stmt := top 92
theorem sc_full : FnScope ["_law_ledger", "_law_lights", "_law_bound", "_law_goods", "_law_days", "_law_life", "_law_full_here"] ["_law_ledger"] (defScope s_full) := ⟨rfl, rfl, rfl, by decide +kernel, rfl, by decide +kernel, by decide +kernel⟩
def spFull (K : PySem.W.Frag) (C : Addr) : Sp := fun vs H Q _ => ∃ p L D E ls g ds, vs = [.ref p] ∧ Led C H p L D E ls g ds ∧ ∀ (H' : Hp) (p2 L2 D2 E2 : Addr) (ls2 : List Int) (g2 : Good), Same H H' → Led C H' p2 L2 D2 E2 ls2 g2 [] → ls2.length = 40 → H L2 = none → H D2 = none → H E2 = none → Q (.ref p2) H'
theorem ok_full {f C : Addr} {fd : FuncData} (F : Fun K "_law_full" "_law_full" s_full f fd) (B : Bi mg) (D_asked : Def P w K mg base "_law_asked" 13 ["_law_ledger", "_law_word_here", "_law_things"] (spAsk37 K C)) (MK_Ledger : Maker P w K mg base "Ledger" 9 C (spLInit K C)) (T_bakery : C8.Met P w K mg base 1 C "bakery" (spLBak K C) []) : FnOk P w K mg base CX0 14 f fd ["_law_ledger"] (spFull K C) := by
  refine F.ok sc_full (fun vs H Q E h => ?_) (fun cdv A outer s H vs Q E hr h => ?_)
  · obtain ⟨_, _, _, _, _, _, _, rfl, _⟩ := h
    rfl
  · obtain ⟨p, L, D, E', ls, g, ds, rfl, hL, q⟩ := h
    refine ⟨_, (pss_cons (ps_asg (pe_mt0 T_bakery hr (by omega) (pv 0)) (pg_tup rfl (pgs_cons (pg_name (i := 1) sc_full.nd rfl (Or.inl rfl)) (pgs_cons (pg_name (i := 2) sc_full.nd rfl (Or.inl rfl)) (pgs_cons (pg_name (i := 3) sc_full.nd rfl (Or.inl rfl)) pgs_nil)))))
 (pss_cons (ps_asg (pe_ix ix_list (pv 3) pe_int (fun _ _ => rfl)) (pg_tup rfl (pgs_cons (pg_name (i := 4) sc_full.nd rfl (Or.inl rfl)) (pgs_cons (pg_name (i := 5) sc_full.nd rfl (Or.inl rfl)) pgs_nil))))
 (pss_cons (ps_set (i := 6) sc_full.nd rfl (Or.inl rfl) (pe_mkD MK_Ledger hr (by rfl) (pa_cons (pe_tup (pa_cons (pe_slice sl_list (pe_op op_rep (pv 1) pe_int) po_none (po_some pe_int)) (pa_cons pe_non (pa_cons (pe_lst (pa_cons (pe_tup (pa_cons (pe_slice sl_list (pe_op op_rep (pv 4) pe_int) po_none (po_some pe_int)) (pa_cons (pv 5) pa_nil))) pa_nil)) pa_nil)))) pa_nil)))
 (pss_cons (ps_if (PW.pt (pw_or (pt_cmpR op_ne (pe_callD D_asked hr (by rfl) (pa_cons (pv 6) (pa_cons pe_str (pa_cons (pe_lst (pa_cons (pe_ix ix_list (pv 1) pe_int (fun _ _ => rfl)) (pa_cons (pe_ix ix_list (pv 4) pe_int (fun _ _ => rfl)) pa_nil))) pa_nil)))) pe_str (nomark _)) (pw_or1 (pt_cmpR op_ne (pe_callB call_lnL (by rfl) B.len (by decide +kernel) (pa_cons (pe_ix ix_tup (pe_mt0 T_bakery hr (by omega) (pv 6)) pe_int (fun _ _ => rfl)) pa_nil)) pe_int (nomark _))))) (pss_one (ps_ret pe_non)) pss_nil)
 (pss_one (ps_ret (pe_mkD MK_Ledger hr (by rfl) (pa_cons (pe_mt0 T_bakery hr (by omega) (pv 6)) pa_nil)))))))), ?_⟩
    obtain ⟨⟨c1, c2⟩, c3, _, _, c7⟩ := bak_parts hL.ok
    obtain ⟨c8, c9, hok⟩ := c7 g (List.mem_singleton.mpr rfl)
    dsimp only at c1 c2 c3 c8
    unfold tMake
    walk_at "wp"
    refine ⟨hL.isObj, p, L, D, E', ls, g, ds, rfl, hL, fun H1 t S1 ht0 => ?_⟩
    have ht := ht0.same (but_same _ _)
    obtain ⟨ta, al, ga, tg, ad, xs, e1, h2, h3, h4, h5, h6, h7⟩ := tk_bak1 ht
    cases e1
    walk_at "wp"
    have e1 : (ls.map V.int).length = ls.length := List.length_map _
    have hda : TkAll H1 xs (g.days.map dayD) := h7.same (fun b o e => (tupsOf_is e).1)
    have e2 := hda.length
    rw [List.length_map] at e2
    have hz : ∀ k, k ≤ 40 → k * 39 ≤ 1600 := fun k hk => Nat.le_trans (Nat.mul_le_mul_right 39 hk) (by decide)
    refine ⟨_, SqT.of h2, rfl, ?_⟩
    walk_at "wp"
    refine ⟨_, _, SqL.of h4, atI_nat (j := 0) rfl, ?_⟩
    walk_at "wp"
    refine ⟨_, SqT.of h5, rfl, ?_⟩
    walk_at "wp"
    refine ⟨_, h3, by decide, by decide, sz100 (by rw [e1]; have := hz ls.length (by omega); show ls.length * 39 ≤ _; omega), fun p1 hp1 => ?_⟩
    rw [show Int.toNat 39 = 39 from rfl]
    obtain ⟨G1, f1, T1, E1⟩ := alloc (.lst (List.replicate 39 (ls.map V.int)).flatten) hp1
    rw [f1]
    refine ⟨_, SqL.of E1, fun p2 hp2 => ?_⟩
    rw [show cutV (List.replicate 39 (ls.map V.int)).flatten none (some 39) = cyc 39 (ls.map V.int) from cutV_upto _ 39]
    obtain ⟨G2, f2, T2, E2⟩ := alloc (.lst (cyc 39 (ls.map V.int))) hp2
    rw [f2]
    have T12 := T1.trans T2
    refine ⟨_, T12 _ _ h6, by decide, by decide, sz100 (by rw [e2]; have := hz g.days.length (by omega); show g.days.length * 39 ≤ _; omega), fun p3 hp3 => ?_⟩
    obtain ⟨G3, f3, T3, E3⟩ := alloc (.lst (List.replicate 39 xs).flatten) hp3
    rw [f3]
    refine ⟨_, SqL.of E3, fun p4 hp4 => ?_⟩
    rw [show cutV (List.replicate 39 xs).flatten none (some 39) = cyc 39 xs from cutV_upto _ 39]
    obtain ⟨G4, f4, T4, E4⟩ := alloc (.lst (cyc 39 xs)) hp4
    rw [f4]
    refine ⟨sz100 (by decide), fun p5 hp5 => ?_⟩
    obtain ⟨G5, f5, T5, E5⟩ := alloc (.tup [V.ref p4, optV g.life]) hp5
    rw [f5]
    refine ⟨sz100 (by decide), fun p6 hp6 => ?_⟩
    obtain ⟨G6, f6, T6, E6⟩ := alloc (.lst [V.ref p5]) hp6
    rw [f6]
    refine ⟨sz100 (by decide), fun p7 hp7 => ?_⟩
    obtain ⟨G7, f7, T7, E7⟩ := alloc (.tup [V.ref p2, V.non, V.ref p6]) hp7
    rw [f7]
    have T17 := T12.trans (T3.trans (T4.trans (T5.trans (T6.trans T7))))
    have hbk : Tk G7 (.ref p7) (bakD ⟨cyc 39 ls, none, [⟨cyc 39 g.days, g.life⟩]⟩) := by
      refine .tup E7 (.cons (.lst ((T3.trans (T4.trans (T5.trans (T6.trans T7)))) _ _ E2) ?_) (.cons .non (.cons (.lst (T7 _ _ E6) (.cons (.tup ((T6.trans T7) _ _ E5) (.cons (.lst ((T5.trans (T6.trans T7)) _ _ E4) ?_) (.cons (Tk.optV _) .nil))) .nil)) .nil)))
      · rw [show (cyc 39 ls).map PyData.int = cyc 39 (ls.map PyData.int) from cyc_map _ _ _]
        exact cyc_tk (tkAll_ints ls) 39
      · show TkAll G7 (cyc 39 xs) ((cyc 39 g.days).map dayD)
        rw [cyc_map]
        exact cyc_tk (hda.same T17) 39
    obtain ⟨hb39, hl39⟩ := cyc_bak hL.ok (m := 39) (by decide) (by decide)
    intro p8 dx n8 nd ne8
    have s0 : Same G7 (upd (upd G7 dx (.own p8)) p8 (.ins C dx [])) := fun b o e => by
      rw [upd_ne (ne_of_none e n8), upd_ne (ne_of_none e nd)]
      exact e
    refine ⟨G7, p8, dx, _, cyc 39 ls, _, rfl, s0, n8, upd_same, hbk, hb39, fun H2 L2 D2 E2 S2 nL nD nE hL2 => ⟨rfl, ?_⟩⟩
    clear s0
    have S02 := T17.trans S2
    refine ⟨_, _, SqL.of (S02 _ _ h3), atI_nat (j := 0) (v := .int (ls[0]'c1)) (by rw [List.getElem?_map, List.getElem?_eq_getElem c1]; rfl), ?_⟩
    have hday : g.days[0]? = some (g.days[0]'(by omega)) := List.getElem?_eq_getElem _
    obtain ⟨vd, hvd, hvdd⟩ := k_get hda (i := 0) (d := dayD (g.days[0]'(by omega))) (by rw [List.getElem?_map, hday]; rfl)
    obtain ⟨td, rfl, htd⟩ := tk_day hvdd
    refine ⟨_, _, SqL.of (S02 _ _ h6), atI_nat (j := 0) hvd, sz100 (by decide), fun p9 n9 => ?_⟩
    have hok0 := hok _ (List.getElem_mem (show 0 < g.days.length by omega))
    have hz0 := c3 _ (List.getElem_mem c1)
    generalize g.days[0]'(by omega) = d0 at htd hok0 hday hvdd
    generalize ls[0]'c1 = z0 at hz0 ⊢
    have S3 := same_upd (o := .lst [V.int z0, V.ref td]) n9
    have e9 : upd H2 p9 (.lst [V.int z0, V.ref td]) p9 = some (.lst [V.int z0, V.ref td]) := upd_same
    generalize upd H2 p9 (.lst [V.int z0, V.ref td]) = H3 at S3 e9 ⊢
    have htd3 := (S02.trans S3) _ _ htd
    have hadd : addW (.int z0) (dayD d0) (cyc 39 ls).length = "told" := by
      unfold addW
      rw [if_neg (by rw [hz0]; decide), if_neg (by rw [hok0]; decide), if_neg (by rw [hl39]; decide)]
    refine .inl ⟨p8, L2, D2, E2, cyc 39 ls, _, [], p9, .int z0, .ref td, .int z0, dayD d0, rfl, hL2.same S3, Nat.zero_le _, SqL.of e9, .int _, .tup (SqT.of htd3) (.cons (.int _) (.cons (.int _) (.cons (.int _) (.cons (Th.optV _) .nil)))), fun _ => ⟨td, d0, rfl, rfl, htd3⟩, fun hne => absurd hadd hne, fun _ z dd ez ed H4 S4 hL4 => ?_⟩
    cases ez
    walk_at "wp"
    refine ⟨hL4.isObj, p8, L2, D2, E2, _, _, _, rfl, hL4, fun H5 t5 S5 ht5 => ?_⟩
    obtain ⟨ta5, al5, ga5, tg5, ad5, xs5, e15, h25, h35, _⟩ := tk_bak1 ht5
    cases e15
    walk_at "wp"
    refine ⟨_, _, SqT.of (but_same _ _ _ _ h25), atI_nat (j := 0) rfl, ?_⟩
    walk_at "wp"
    refine ⟨_, SqL.of (but_same _ _ _ _ h35), ?_⟩
    have hl40 : (cyc 39 ls ++ [z0]).length = 40 := by rw [List.length_append, hl39]; rfl
    rw [List.length_map, hl40]
    rw [if_neg (by rw [decide_eq_true (show ((40 : Nat) : Int) = 40 from rfl)]; decide)]
    have hL5 := hL4.same S5
    refine ⟨hL5.isObj, p8, L2, D2, E2, _, _, _, rfl, hL5, fun H6 t6 S6 ht6 pA dA nA nd ne => ?_⟩
    have hL6 := hL5.same S6
    have s0 : Same H6 (upd (upd H6 dA (.own pA)) pA (.ins C dA [])) := fun b o e => by
      rw [upd_ne (ne_of_none e nA), upd_ne (ne_of_none e nd)]
      exact e
    refine ⟨H6, pA, dA, .ref t6, _, _, rfl, s0, nA, upd_same, ht6.same (but_same _ _), hL6.ok, fun H7 L7 D7 E7 S7 nL7 nD7 nE7 hL7 => ⟨rfl, ?_⟩⟩
    have S12 : Same H1 H2 := S02
    have nL1 := T17.free nL
    have nD1 := T17.free nD
    have nE1 := T17.free nE
    have S14 : Same H1 (but [L2, D2, E2] H4) := (same_but (S12.trans S3) nL1 nD1 nE1).trans S4
    have S17 : Same H1 H7 := S14.trans ((but_same _ _).trans (S5.trans (S6.trans S7)))
    have S06 : Same H H6 := S1.trans (S14.trans ((but_same _ _).trans (S5.trans S6)))
    exact q H7 pA L7 D7 E7 _ _ (S1.trans S17) hL7 hl40 (S06.free nL7) (S06.free nD7) (S06.free nE7)
end
end Bk

namespace Bk
open PySem PySem.Spec PyProof.Rows L2
local macro_rules | `(tactic| walk_at "wp") => `(tactic| try simp only [tMethW, tMethWD, tMakeR, rReprM_r, rIsX_r, rIsXT_r, tXk, rCntB_r, rStrT_r, rGtT_r, tRaise1f, rSorTL_r, rSorTR_r, tCKw, tLc2_eq, rIntS_r, rLenS_r, rIxS_r, rInS_r, rSplit_r, iStr_eq, rNewStrs, iRng3_eq, rRng3_i, tM1, tFmt, iLT, tAugS, tScT2, rSetL_r, rSetOf2_r, rSorDT_r, rSetD, tDGet2, tDGet, tDNewT, cxW, rExtend_r, rSortU_r, rSetOf_r, rSortedSet_r, rNinr_r, rNeN_r, rCatL_r, rSlT_r, rListOf_r, rIsB_b, rNotB_b, tFmtO, tJs, tOst, tCallS, WE, tRaise2, rOne_i, rSorD_r, tDNewK, Int.zero_add, tNever, tFor_eq, tLc_eq, iList, iTup, iRng1_eq, rRng1_i, iRng2_eq, rRng2_i, iEnum_eq, rEnum_r, iZip_eq, rZip_r, tSl, tPart, tNoPart, rSlL_r, rCat_r, rIn_r, rNin_r, rRepr_r, iRevR, rMin_r, rShr_i, rOdd_i, rSetL_r, gSub, rRg1_i, rRg2_i, rInr_r, tAug, ipI_ii, tLstRg, tRg1, tRg2, gTup_r, gUnl_r, rInt1_b, rInt1_i, rRep_r, tStep_r, scal, tSeq, tNext, tAsg, tRet, tRetN, tIfS, tDrop, tCB, tCons, tNil, tVar, tOp, tUn, tC, rU_i, rI_ii, rI0_ii, rEq, rNe, tTest, tB, tAnd, tOr, tNot, tAndV, tOrV, tNotV, tIf, tChain, tLst, tTup, tBM, tBM0, rAppend_r, rIxL_r, rIxT_r, rMx_ii, rMn_ii, rLnL_r, rLnT_r, rIsD_int, rIsD_bool, rIsD_list, rIsD_tuple, tCall, gName, gNil_n, gCons_c, cxK, L2.start, List.map, List.replicate, List.length_cons, List.length_nil, List.cons_append, List.nil_append, List.append_nil, List.getElem?_cons_zero, List.getElem?_cons_succ, Option.some.injEq, exists_eq_left', exists_eq_left, V.int.injEq, V.bl.injEq, V.str.injEq, V.ref.injEq, List.cons.injEq, and_true, true_and, and_self, List.set, wipe, rAll_r, rSum_r, reduceCtorEq, decide_true, decide_false, reduceIte, ite_true, ite_false, if_true, if_false, Bool.false_eq_true, Bool.not_true, Bool.not_false])
local macro_rules | `(tactic| walk_at "shaped") => `(tactic| (simp only [tMethW, tMethWD, tMakeR, rGtT_r, SeqAt.shaped, PyData.canLay0, PyData.canLayAll0, PyData.depth, PyData.depthAll]; rfl))
local macro_rules | `(tactic| walk_at "lay") => `(tactic| (simp only [tMethW, tMethWD, tMakeR, rGtT_r, PyData.canLay0, PyData.canLayAll0]; rfl))
local macro_rules | `(tactic| walk_at "wg") => `(tactic| try simp only [gName, gTup_r, gCons_c, gNil_n, cxK, List.set, List.cons.injEq, and_true, true_and, exists_eq_left', exists_eq_left, List.length_cons, List.length_nil])
section
variable {P : Program} {w : World} {K : PySem.W.Frag} {mg : Str → Option Value} {base : Heap}
abbrev s_spoilt_right : Stmt := top 93
theorem sc_spoilt_right : FnScope ["_law_good", "_law_found", "_law_goods", "e"] [] (defScope s_spoilt_right) := ⟨rfl, rfl, rfl, by decide +kernel, rfl, by decide +kernel, by decide +kernel⟩
def spSpoR (K : PySem.W.Frag) : Sp := fun vs H Q _ => vs = [] ∧ ∀ H', Same H H' → Q (.bl true) H'
theorem ok_spoilt_right {f CL C1 C5 : Addr} {fd : FuncData} (F : Fun K "_law_spoilt_right" "_law_spoilt_right" s_spoilt_right f fd) (B : Bi mg) (NB : Err2 P w K mg base "NoBakery" C1 "good" "day") (hx : PySem.W.exmOne K (.ref C1) (.ref C1) = some true) (TC : ExcC K C1) (ng : PySem.W.findIn K (.ref C1) "good" = some none) (nd : PySem.W.findIn K (.ref C1) "day" = some none) (MR_Ledger : MakeR P w K mg base "Ledger" 9 CL (spLInitR K C1 C5)) : FnOk P w K mg base CX0 11 f fd [] (spSpoR K) := by
  refine F.ok sc_spoilt_right (fun vs H Q E h => ?_) (fun cdv A outer s H vs Q E hr h => ?_)
  · obtain ⟨rfl, _⟩ := h
    rfl
  · obtain ⟨rfl, q⟩ := h
    refine ⟨_, (pss_cons (ps_set (i := 0) sc_spoilt_right.nd rfl (Or.inl rfl) (pe_tup (pa_cons pe_int (pa_cons pe_int (pa_cons pe_int (pa_cons pe_non pa_nil))))))
 (pss_cons (ps_set (i := 1) sc_spoilt_right.nd rfl (Or.inl rfl) (pe_lst pa_nil))
 (pss_cons (ps_for PassesOwn.never rfl (pi_list (pe_lst (pa_cons (pe_lst (pa_cons (pe_tup (pa_cons (pe_lst (pa_cons (pv 0) (pa_cons (pe_tup (pa_cons pe_int (pa_cons pe_int (pa_cons pe_int (pa_cons (pe_un un_neg pe_int) pa_nil))))) pa_nil))) (pa_cons pe_non pa_nil))) pa_nil)) (pa_cons (pe_lst (pa_cons (pe_tup (pa_cons (pe_lst (pa_cons (pv 0) (pa_cons (pv 0) pa_nil))) (pa_cons pe_non pa_nil))) (pa_cons (pe_tup (pa_cons (pe_lst (pa_cons (pv 0) (pa_cons (pe_tup (pa_cons pe_int (pa_cons pe_int (pa_cons pe_int (pa_cons (pe_un un_neg pe_int) pa_nil))))) pa_nil))) (pa_cons pe_int pa_nil))) pa_nil))) pa_nil)))) (pg_name (i := 2) sc_spoilt_right.nd rfl (Or.inl rfl)) (pss_one (ps_try_keepT (i := 3) (tb := fun W => tDrop (tMakeR CL (spLInitR K C1 C5) (WE W) (tCons (tTup (tCons (tLst (tCons (tC (.int 1)) (tCons (tC (.int 1)) tNil))) (tCons (tC .non) (tCons (tVar 2) tNil)))) tNil))) (ts := fun _ _ _ => tDrop (tBM K "list" rAppend (tVar 1) (tCons (tTup (tCons (tXk K "good" (tVar 3)) (tCons (tXk K "day" (tVar 3)) tNil))) tNil))) (Wout := fun _ _ _ _ => False) rfl rfl sc_spoilt_right.nd rfl rfl ⟨rfl, by decide, Or.inl NB.g⟩ takes0 (fun W pn xe tk _ => (pss_one (ps_expr (pe_mkR MR_Ledger tk hr (by rfl) (pa_cons (pe_tup (pa_cons (pe_lst (pa_cons pe_int (pa_cons pe_int pa_nil))) (pa_cons pe_non (pa_cons (pv 2) pa_nil)))) pa_nil))))) (fun a oe cls d pn hz hf => (pss_one (ps_expr (pe_bm PySem.F.plainAttrs_list PySem.F.slot_list_append PySem.F.type_list_append mt_append (pv 1) (pa_cons (pe_tup (pa_cons (pe_xk (pv 3)) (pa_cons (pe_xk (pv 3)) pa_nil))) pa_nil))))))))
 (pss_one (ps_ret (pe_cmpR (op_eqD hr.units) (pv 1) (pe_lst (pa_cons (pe_tup (pa_cons pe_int (pa_cons pe_int pa_nil))) (pa_cons (pe_tup (pa_cons pe_int (pa_cons pe_int pa_nil))) pa_nil))) (nomark _))))))), ?_⟩
    walk_at "wp"
    refine ⟨sz100 (by decide), fun p1 n1 => ?_⟩
    obtain ⟨G1, f1, T1, E1⟩ := alloc (.tup [V.int 1, V.int 1, V.int 1, V.non]) n1
    rw [f1]
    refine ⟨sz100 (by decide), fun p2 n2 => ?_⟩
    obtain ⟨G2, f2, T2, E2⟩ := alloc (.lst []) n2
    rw [f2]
    refine ⟨sz100 (by decide), fun p3 n3 => ?_⟩
    obtain ⟨G3, f3, T3, E3⟩ := alloc (.tup [V.int 1, V.int 1, V.int 1, V.int (-1)]) n3
    rw [f3]
    refine ⟨sz100 (by decide), fun p4 n4 => ?_⟩
    obtain ⟨G4, f4, T4, E4⟩ := alloc (.lst [V.ref p1, V.ref p3]) n4
    rw [f4]
    refine ⟨sz100 (by decide), fun p5 n5 => ?_⟩
    obtain ⟨G5, f5, T5, E5⟩ := alloc (.tup [V.ref p4, V.non]) n5
    rw [f5]
    refine ⟨sz100 (by decide), fun p6 n6 => ?_⟩
    obtain ⟨G6, f6, T6, E6⟩ := alloc (.lst [V.ref p5]) n6
    rw [f6]
    refine ⟨sz100 (by decide), fun p7 n7 => ?_⟩
    obtain ⟨G7, f7, T7, E7⟩ := alloc (.lst [V.ref p1, V.ref p1]) n7
    rw [f7]
    refine ⟨sz100 (by decide), fun p8 n8 => ?_⟩
    obtain ⟨G8, f8, T8, E8⟩ := alloc (.tup [V.ref p7, V.non]) n8
    rw [f8]
    refine ⟨sz100 (by decide), fun p9 n9 => ?_⟩
    obtain ⟨G9, f9, T9, E9⟩ := alloc (.tup [V.int 1, V.int 1, V.int 1, V.int (-1)]) n9
    rw [f9]
    refine ⟨sz100 (by decide), fun p10 n10 => ?_⟩
    obtain ⟨G10, f10, T10, E10⟩ := alloc (.lst [V.ref p1, V.ref p9]) n10
    rw [f10]
    refine ⟨sz100 (by decide), fun p11 n11 => ?_⟩
    obtain ⟨G11, f11, T11, E11⟩ := alloc (.tup [V.ref p10, V.int 2]) n11
    rw [f11]
    refine ⟨sz100 (by decide), fun p12 n12 => ?_⟩
    obtain ⟨G12, f12, T12, E12⟩ := alloc (.lst [V.ref p8, V.ref p11]) n12
    rw [f12]
    refine ⟨sz100 (by decide), fun p13 n13 => ?_⟩
    obtain ⟨G13, f13, T13, E13⟩ := alloc (.lst [V.ref p6, V.ref p12]) n13
    rw [f13]
    have F1 : G13 p1 = _ := (T2.trans (T3.trans (T4.trans (T5.trans (T6.trans (T7.trans (T8.trans (T9.trans (T10.trans (T11.trans (T12.trans (T13)))))))))))) _ _ E1
    have F2 : G13 p2 = _ := (T3.trans (T4.trans (T5.trans (T6.trans (T7.trans (T8.trans (T9.trans (T10.trans (T11.trans (T12.trans (T13))))))))))) _ _ E2
    have F3 : G13 p3 = _ := (T4.trans (T5.trans (T6.trans (T7.trans (T8.trans (T9.trans (T10.trans (T11.trans (T12.trans (T13)))))))))) _ _ E3
    have F4 : G13 p4 = _ := (T5.trans (T6.trans (T7.trans (T8.trans (T9.trans (T10.trans (T11.trans (T12.trans (T13))))))))) _ _ E4
    have F5 : G13 p5 = _ := (T6.trans (T7.trans (T8.trans (T9.trans (T10.trans (T11.trans (T12.trans (T13)))))))) _ _ E5
    have F6 : G13 p6 = _ := (T7.trans (T8.trans (T9.trans (T10.trans (T11.trans (T12.trans (T13))))))) _ _ E6
    have F7 : G13 p7 = _ := (T8.trans (T9.trans (T10.trans (T11.trans (T12.trans (T13)))))) _ _ E7
    have F8 : G13 p8 = _ := (T9.trans (T10.trans (T11.trans (T12.trans (T13))))) _ _ E8
    have F9 : G13 p9 = _ := (T10.trans (T11.trans (T12.trans (T13)))) _ _ E9
    have F10 : G13 p10 = _ := (T11.trans (T12.trans (T13))) _ _ E10
    have F11 : G13 p11 = _ := (T12.trans (T13)) _ _ E11
    have F12 : G13 p12 = _ := (T13) _ _ E12
    have F13 : G13 p13 = _ := (Same.refl G13) _ _ E13
    have m1 : p1 ≠ p2 := fun z => by rw [z] at E1; rw [E1] at n2; cases n2
    have m3 : p3 ≠ p2 := fun z => by rw [z, (Same.refl G2) _ _ E2] at n3; cases n3
    have m4 : p4 ≠ p2 := fun z => by rw [z, (T3) _ _ E2] at n4; cases n4
    have m5 : p5 ≠ p2 := fun z => by rw [z, (T3.trans (T4)) _ _ E2] at n5; cases n5
    have m6 : p6 ≠ p2 := fun z => by rw [z, (T3.trans (T4.trans (T5))) _ _ E2] at n6; cases n6
    have m7 : p7 ≠ p2 := fun z => by rw [z, (T3.trans (T4.trans (T5.trans (T6)))) _ _ E2] at n7; cases n7
    have m8 : p8 ≠ p2 := fun z => by rw [z, (T3.trans (T4.trans (T5.trans (T6.trans (T7))))) _ _ E2] at n8; cases n8
    have m9 : p9 ≠ p2 := fun z => by rw [z, (T3.trans (T4.trans (T5.trans (T6.trans (T7.trans (T8)))))) _ _ E2] at n9; cases n9
    have m10 : p10 ≠ p2 := fun z => by rw [z, (T3.trans (T4.trans (T5.trans (T6.trans (T7.trans (T8.trans (T9))))))) _ _ E2] at n10; cases n10
    have m11 : p11 ≠ p2 := fun z => by rw [z, (T3.trans (T4.trans (T5.trans (T6.trans (T7.trans (T8.trans (T9.trans (T10)))))))) _ _ E2] at n11; cases n11
    have m12 : p12 ≠ p2 := fun z => by rw [z, (T3.trans (T4.trans (T5.trans (T6.trans (T7.trans (T8.trans (T9.trans (T10.trans (T11))))))))) _ _ E2] at n12; cases n12
    have m13 : p13 ≠ p2 := fun z => by rw [z, (T3.trans (T4.trans (T5.trans (T6.trans (T7.trans (T8.trans (T9.trans (T10.trans (T11.trans (T12)))))))))) _ _ E2] at n13; cases n13
    have B1 : but [p2] G13 p1 = _ := but_at (fun z => m1 (List.mem_singleton.mp z)) F1
    have B3 : but [p2] G13 p3 = _ := but_at (fun z => m3 (List.mem_singleton.mp z)) F3
    have B4 : but [p2] G13 p4 = _ := but_at (fun z => m4 (List.mem_singleton.mp z)) F4
    have B5 : but [p2] G13 p5 = _ := but_at (fun z => m5 (List.mem_singleton.mp z)) F5
    have B6 : but [p2] G13 p6 = _ := but_at (fun z => m6 (List.mem_singleton.mp z)) F6
    have B7 : but [p2] G13 p7 = _ := but_at (fun z => m7 (List.mem_singleton.mp z)) F7
    have B8 : but [p2] G13 p8 = _ := but_at (fun z => m8 (List.mem_singleton.mp z)) F8
    have B9 : but [p2] G13 p9 = _ := but_at (fun z => m9 (List.mem_singleton.mp z)) F9
    have B10 : but [p2] G13 p10 = _ := but_at (fun z => m10 (List.mem_singleton.mp z)) F10
    have B11 : but [p2] G13 p11 = _ := but_at (fun z => m11 (List.mem_singleton.mp z)) F11
    have B12 : but [p2] G13 p12 = _ := but_at (fun z => m12 (List.mem_singleton.mp z)) F12
    have B13 : but [p2] G13 p13 = _ := but_at (fun z => m13 (List.mem_singleton.mp z)) F13
    have D1 : Th K (but [p2] G13) (.ref p6) (.list [.tuple [.list [PyData.tuple [.int 1, .int 1, .int 1, .none], PyData.tuple [.int 1, .int 1, .int 1, .int (-1)]], .none]]) := .lst (SqL.of B6) (.cons (.tup (SqT.of B5) (.cons (.lst (SqL.of B4) (.cons (Th.tup (SqT.of B1) (.cons (.int _) (.cons (.int _) (.cons (.int _) (.cons .non .nil))))) (.cons (Th.tup (SqT.of B3) (.cons (.int _) (.cons (.int _) (.cons (.int _) (.cons (.int _) .nil))))) .nil))) (.cons .non .nil))) .nil)
    have D2 : Th K (but [p2] G13) (.ref p12) (.list [.tuple [.list [PyData.tuple [.int 1, .int 1, .int 1, .none], PyData.tuple [.int 1, .int 1, .int 1, .none]], .none], .tuple [.list [PyData.tuple [.int 1, .int 1, .int 1, .none], PyData.tuple [.int 1, .int 1, .int 1, .int (-1)]], .int 2]]) := .lst (SqL.of B12) (.cons (.tup (SqT.of B8) (.cons (.lst (SqL.of B7) (.cons (Th.tup (SqT.of B1) (.cons (.int _) (.cons (.int _) (.cons (.int _) (.cons .non .nil))))) (.cons (Th.tup (SqT.of B1) (.cons (.int _) (.cons (.int _) (.cons (.int _) (.cons .non .nil))))) .nil))) (.cons .non .nil))) (.cons (.tup (SqT.of B11) (.cons (.lst (SqL.of B10) (.cons (Th.tup (SqT.of B1) (.cons (.int _) (.cons (.int _) (.cons (.int _) (.cons .non .nil))))) (.cons (Th.tup (SqT.of B9) (.cons (.int _) (.cons (.int _) (.cons (.int _) (.cons (.int _) .nil))))) .nil))) (.cons (.int 2) .nil))) .nil))
    have hH : Same H (but [p2] G13) := fun b o e => by
      have nb : b ≠ p2 := fun z => by rw [z] at e; rw [T1 _ _ e] at n2; cases n2
      exact but_at (fun z => nb (List.mem_singleton.mp z)) ((T1.trans (T2.trans (T3.trans (T4.trans (T5.trans (T6.trans (T7.trans (T8.trans (T9.trans (T10.trans (T11.trans (T12.trans (T13))))))))))))) _ _ e)
    refine ⟨⟨_, SqL.of F13⟩, ?_⟩
    refine LoopR.by (walk_list (xs := [V.ref p6, V.ref p12])) (fun i σ H' => ∃ (y2 : Option V) (ts : List Addr), σ = [some (.ref p1), some (.ref p2), y2, none] ∧ H' p2 = some (.lst (ts.map V.ref)) ∧ ts.length = i ∧ (∀ (j : Nat) (t : Addr), ts[j]? = some t → H' t = some (.tup [.int (j : Int), .int 1])) ∧ Same (but [p2] G13) (but [p2] H')) ⟨none, [], rfl, F2, rfl, fun j t z => (by cases z), Same.refl _⟩ (fun i σ H' _ hI => ?_) (fun i v σ H0 H3 hi hI yy => ?_) (fun σ H3 hI => ?_)
    · obtain ⟨_, _, _, _, _, _, S⟩ := hI
      exact SqL.of (but_is (S _ _ B13)).2
    · obtain ⟨rfl, hxi⟩ := yy
      obtain ⟨y2, ts, rfl, hf, hl, hts, S⟩ := hI
      obtain ⟨dg, hv, hw⟩ : ∃ dg, Th K (but [p2] G13) v (.list dg) ∧ wrongD (.tuple [.list [.int 1, .int 1], .none, .list dg]) = some (some i, some 1) := by
        have hi : i < 2 := hi
        rcases (show i = 0 ∨ i = 1 by omega) with rfl | rfl
        · cases hxi
          exact ⟨_, D1, by decide +kernel⟩
        · cases hxi
          exact ⟨_, D2, by decide +kernel⟩
      walk_at "wp"
      refine ⟨sz100 (by decide), fun q1 k1 => ?_⟩
      obtain ⟨K1, g1, U1, V1⟩ := alloc (.lst [V.int 1, V.int 1]) k1
      rw [g1]
      refine ⟨sz100 (by decide), fun q2 k2 => ?_⟩
      obtain ⟨K2, g2, U2, V2⟩ := alloc (.tup [V.ref q1, V.non, v]) k2
      rw [g2]
      intro px dx j1 j2 j3
      have U3 : Same K2 (upd (upd K2 dx (.own px)) px (.ins CL dx [])) := (same_upd j2).trans (same_upd (by rw [upd_ne (Ne.symm j3)]; exact j1))
      generalize upd (upd K2 dx (.own px)) px (.ins CL dx []) = K3 at U3 ⊢
      have hv3 := ((hv.same S).same (but_same _ _)).same (U1.trans (U2.trans U3))
      refine ⟨px, .ref q2, _, rfl, .tup (SqT.of (U3 _ _ V2)) (.cons (.lst (SqL.of ((U2.trans U3) _ _ V1)) (.cons (.int 1) (.cons (.int 1) .nil))) (.cons .non (.cons hv3 .nil))), .inl ⟨some i, some 1, hw, fun K4 dx' S4 ed => ⟨true, hx, fun z => (by cases z), fun _ a ha => ?_⟩⟩⟩
      walk_at "wp"
      have U5 := same_upd (o := ExK (.ref C1) (some dx') a) ha
      have V5 : upd K4 a (ExK (.ref C1) (some dx') a) a = some (ExK (.ref C1) (some dx') a) := upd_same
      generalize upd K4 a (ExK (.ref C1) (some dx') a) = K5 at U5 V5 ⊢
      have W5 := (U1.trans (U2.trans U3)).trans (S4.trans U5)
      have hf5 := W5 _ _ hf
      have ed5 := U5 _ _ ed
      have xf : XfC K C1 := ⟨TC.hg, TC.hk, TC.hs, TC.hd⟩
      have lg : ([(Str.ofString "day", natV (some 1)), (Str.ofString "good", natV (some i))] : List (Str × V)).lookup (Str.ofString "good") = some (natV (some i)) := rfl
      have ld : ([(Str.ofString "day", natV (some 1)), (Str.ofString "good", natV (some i))] : List (Str × V)).lookup (Str.ofString "day") = some (natV (some 1)) := rfl
      refine ⟨tyL (SqL.of hf5), a, C1, dx', _, _, rfl, V5, xf, ng, ed5, lg, a, C1, dx', _, _, rfl, V5, xf, nd, ed5, ld, sz100 (by decide), fun q4 k4 => ?_⟩
      have U6 := same_upd (o := .tup [natV (some i), natV (some 1)]) k4
      have V6 : upd K5 q4 (.tup [natV (some i), natV (some 1)]) q4 = some (.tup [.int (i : Int), .int 1]) := upd_same
      generalize upd K5 q4 (.tup [natV (some i), natV (some 1)]) = K6 at U6 V6 ⊢
      have hf6 := U6 _ _ hf5
      have hq4 : q4 ≠ p2 := fun z => by rw [z, hf5] at k4; cases k4
      have htp : ∀ t, K6 t = some (.tup [.int (i : Int), .int 1]) → t ≠ p2 := fun t e z => by rw [z, hf6] at e; cases e
      have hi2 : i < 2 := hi
      refine ⟨_, hf6, by rw [List.length_map, hl]; rw [sizeLine_eq]; omega, some v, ts ++ [q4], rfl, ?_, by rw [List.length_append, hl]; rfl, fun j t hj => ?_, ?_⟩
      · rw [upd_same, List.map_append]
        rfl
      · rw [List.getElem?_append] at hj
        split at hj
        · rename_i h
          have e := U6 _ _ (W5 _ _ (hts j t hj))
          rw [upd_ne (fun z => by rw [z, hf6] at e; cases e)]
          exact e
        · rename_i h
          have hj0 : j - ts.length = 0 := by
            have := (List.getElem?_eq_some_iff.mp hj).1
            simp only [List.length_cons, List.length_nil] at this
            omega
          rw [hj0] at hj
          cases hj
          rw [upd_ne hq4, V6]
          have : j = i := by omega
          rw [this]
      · rw [but_upd (by simp)]
        exact S.trans (but_mono (W5.trans U6))
    · obtain ⟨y2, ts, rfl, hf, hl, hts, S⟩ := hI
      have hl : ts.length = 2 := hl
      obtain ⟨t0, t1, rfl⟩ : ∃ t0 t1, ts = [t0, t1] := by
        match ts, hl with
        | [t0, t1], _ => exact ⟨t0, t1, rfl⟩
      have h0 := hts 0 t0 rfl
      have h1 := hts 1 t1 rfl
      walk_at "wp"
      refine ⟨sz100 (by decide), fun q1 k1 => ?_⟩
      obtain ⟨K1, g1, U1, V1⟩ := alloc (.tup [V.int 0, V.int 1]) k1
      rw [g1]
      refine ⟨sz100 (by decide), fun q2 k2 => ?_⟩
      obtain ⟨K2, g2, U2, V2⟩ := alloc (.tup [V.int 1, V.int 1]) k2
      rw [g2]
      refine ⟨sz100 (by decide), fun q3 k3 => ?_⟩
      obtain ⟨K3, g3, U3, V3⟩ := alloc (.lst [V.ref q1, V.ref q2]) k3
      rw [g3]
      have U13 := U1.trans (U2.trans U3)
      have tt : ∀ {q : Addr} {m : Int}, K3 q = some (.tup [.int m, .int 1]) → Th K K3 (.ref q) (.tuple [.int m, .int 1]) := fun e => .tup (SqT.of e) (.cons (.int _) (.cons (.int _) .nil))
      refine ⟨.list [.tuple [.int 0, .int 1], .tuple [.int 1, .int 1]], .list [.tuple [.int 0, .int 1], .tuple [.int 1, .int 1]], ?_⟩
      have dt : ∀ {q : Addr} {m : Int}, K3 q = some (.tup [.int m, .int 1]) → Dp K K3 (.ref q) (.tuple [.int m, .int 1]) := fun e => .tup (SqT.of e) (.cons (.int _) (.cons (.int _) .nil))
      refine ⟨.lst (SqL.of (U13 _ _ hf)) (.cons (dt (U13 _ _ h0)) (.cons (dt (U13 _ _ h1)) .nil)), .lst (SqL.of V3) (.cons (dt ((U2.trans U3) _ _ V1)) (.cons (dt (U3 _ _ V2)) .nil)), by decide +kernel, by decide +kernel, ?_⟩
      rw [show (PyData.list [PyData.tuple [PyData.int 0, PyData.int 1], PyData.tuple [PyData.int 1, PyData.int 1]]).eqv (PyData.list [PyData.tuple [PyData.int 0, PyData.int 1], PyData.tuple [PyData.int 1, PyData.int 1]]) = true by decide +kernel]
      exact q _ (hH.trans (S.trans ((but_same _ _).trans U13)))
end
end Bk

namespace Bk
open PySem PySem.Spec PyProof.Rows L2
open C8 (Met pe_mt pe_mt0)
local macro_rules | `(tactic| walk_at "wp") => `(tactic| try simp only [rCatL_r, sFld, rIsX_r, rIsS_r, tMethW, iRng3_eq, rRng3_i, rNeN_r, iZipA_eq, rZipA_r, iEnumZip_eq, rEnumZip_r, tFld_eq, tMeth_eq, rTIx_r, tTru, tScT2, rSetL_r, rSetOf2_r, rSorDT_r, rSetD, tDGet2, tDGet, tDNewT, cxW, rExtend_r, rSortU_r, rSetOf_r, rSortedSet_r, rNinr_r, rNeN_r, rCatL_r, rSlT_r, rListOf_r, rIsB_b, rNotB_b, tFmtO, tJs, tOst, tCallS, WE, tRaise2, rOne_i, rSorD_r, tDNewK, Int.zero_add, tNever, tFor_eq, tLc_eq, iList, iTup, iRng1_eq, rRng1_i, iRng2_eq, rRng2_i, iEnum_eq, rEnum_r, iZip_eq, rZip_r, tSl, tPart, tNoPart, rSlL_r, rCat_r, rIn_r, rNin_r, rRepr_r, iRevR, rMin_r, rShr_i, rOdd_i, rSetL_r, gSub, rRg1_i, rRg2_i, rInr_r, tAug, ipI_ii, tLstRg, tRg1, tRg2, gTup_r, gUnl_r, rInt1_b, rInt1_i, rRep_r, tStep_r, scal, tSeq, tNext, tAsg, tRet, tRetN, tIfS, tDrop, tCB, tCons, tNil, tVar, tOp, tUn, tC, rU_i, rI_ii, rI0_ii, rEq, rNe, tTest, tB, tAnd, tOr, tNot, tAndV, tOrV, tNotV, tIf, tChain, tLst, tTup, tBM, tBM0, rAppend_r, rIxL_r, rIxT_r, rMx_ii, rMn_ii, rLnL_r, rLnT_r, rIsD_int, rIsD_bool, rIsD_list, rIsD_tuple, tCall, gName, gNil_n, gCons_c, cxK, L2.start, List.map, List.replicate, List.length_cons, List.length_nil, List.cons_append, List.nil_append, List.append_nil, List.getElem?_cons_zero, List.getElem?_cons_succ, Option.some.injEq, exists_eq_left', exists_eq_left, V.int.injEq, V.bl.injEq, V.str.injEq, V.ref.injEq, List.cons.injEq, and_true, true_and, and_self, List.set, wipe, rAll_r, rSum_r, reduceCtorEq, decide_true, decide_false, reduceIte, ite_true, ite_false, if_true, if_false, Bool.false_eq_true, Bool.not_true, Bool.not_false])
local macro_rules | `(tactic| walk_at "shaped") => `(tactic| (simp only [rCatL_r, sFld, rIsX_r, rIsS_r, tMethW, iRng3_eq, rRng3_i, rNeN_r, SeqAt.shaped, PyData.canLay0, PyData.canLayAll0, PyData.depth, PyData.depthAll]; rfl))
local macro_rules | `(tactic| walk_at "lay") => `(tactic| (simp only [rCatL_r, sFld, rIsX_r, rIsS_r, tMethW, iRng3_eq, rRng3_i, rNeN_r, PyData.canLay0, PyData.canLayAll0]; rfl))
local macro_rules | `(tactic| walk_at "wg") => `(tactic| try simp only [gName, gTup_r, gCons_c, gNil_n, cxK, List.set, List.cons.injEq, and_true, true_and, exists_eq_left', exists_eq_left, List.length_cons, List.length_nil])
section
variable {P : Program} {w : World} {K : PySem.W.Frag} {mg : Str → Option Value} {base : Heap}
abbrev s_law : Stmt := top 94
theorem sc_law : FnScope ["_law_script", "_law_bakery_here", "_law_ledger", "_law_two", "_law_thing_here", "_law_due", "_law_k", "_law_cell", "_law_digits", "_law_things", "_law_word_here", "_law_full_here", "_law_deeds", "_law_turn"] ["_law_script"] (defScope s_law) := ⟨rfl, rfl, rfl, by decide +kernel, rfl, by decide +kernel, by decide +kernel⟩
def OkL (d : PyData) (w : Str) : Prop := ((∃ u v, wrongD d = some (u, v)) ∧ w = "bakery") ∨ ((∃ b, d = bakD b ∧ bakB d = true ∧ plainO b = false) ∧ w = "plain")
theorem pl_zero {n : Nat} (h : 1 ≤ n) : plB n (.int 0) = true := by
  simp only [plB, Bool.and_eq_true, decide_eq_true_eq]
  omega
theorem chg_told {n : Nat} (h : 1 ≤ n) : chgW n (.int 0) (.str "want") (.int 1) = "told" := by
  unfold chgW
  rw [if_neg (by rw [pl_zero h]; decide), if_neg (by decide)]
  exact if_pos (by decide)
theorem chg_num {n : Nat} (h : 1 ≤ n) : chgW n (.int 0) (.str "want") (.bool true) = "number" := by
  unfold chgW
  rw [if_neg (by rw [pl_zero h]; decide), if_neg (by decide)]
  exact if_neg (by decide)
theorem chg_short {n : Nat} (h : 1 ≤ n) : chgW n (.int 0) (.str "want") .none = "number" := by
  unfold chgW
  rw [if_neg (by rw [pl_zero h]; decide), if_neg (by decide)]
  exact if_neg (by decide)
theorem chg_one (n : Nat) : chgW n (.int 1) (.str "want") .none ≠ "told" := by
  unfold chgW
  split
  · decide
  · rw [if_neg (by decide)]
    show (if worthA "want" .none = true then ("told" : Str) else "number") ≠ "told"
    rw [if_neg (by decide)]
    decide
theorem digs8 {fs : List Int} (h : Digs [3, 12, 1000000000, 14, 12, 12, 12, 12] fs) : ∃ (f0 f2 : Int) (i1 i3 i4 i5 i6 i7 : Nat), fs = [f0, (i1 : Int), f2, i3, i4, i5, i6, i7] ∧ 0 ≤ f0 ∧ i1 < 12 ∧ i3 < 14 ∧ i4 < 12 ∧ i5 < 12 ∧ i6 < 12 ∧ i7 < 12 ∧ 0 ≤ f2 := by
  obtain ⟨hl, hd⟩ := h
  match fs, hl, hd with
  | [f0, f1, f2, f3, f4, f5, f6, f7], _, hd =>
    have h0 := hd 0 f0 3 rfl rfl
    have h1 := hd 1 f1 12 rfl rfl
    have h2 := hd 2 f2 1000000000 rfl rfl
    have h3 := hd 3 f3 14 rfl rfl
    have h4 := hd 4 f4 12 rfl rfl
    have h5 := hd 5 f5 12 rfl rfl
    have h6 := hd 6 f6 12 rfl rfl
    have h7 := hd 7 f7 12 rfl rfl
    refine ⟨f0, f2, f1.toNat, f3.toNat, f4.toNat, f5.toNat, f6.toNat, f7.toNat, ?_, h0.1, by omega, by omega, by omega, by omega, by omega, by omega, h2.1⟩
    rw [Int.toNat_of_nonneg h1.1, Int.toNat_of_nonneg h3.1, Int.toNat_of_nonneg h4.1, Int.toNat_of_nonneg h5.1, Int.toNat_of_nonneg h6.1, Int.toNat_of_nonneg h7.1]
/-- the ledger's heap beside what was there when it was made -/
structure B37 (K : PySem.W.Frag) (C : Addr) (G : Hp) (p L D E : Addr) (n : Nat) (c : Nat) (H : Hp) : Prop where
  same : Same (but [L, D, E] G) (but [L, D, E] H)
  led : ∃ ls g ds, Led C H p L D E ls g ds ∧ ls.length = n ∧ ds.length = c ∧ ∀ d ∈ ds, ∃ o, d = (some ((0 : Nat), ("want" : Str), o) : Deed) ∧ worthB "want" o = true
theorem B37.mono {K : PySem.W.Frag} {C p L D E : Addr} {G H H' : Hp} {n c : Nat} (h : B37 K C G p L D E n c H) (s : Same H H') : B37 K C G p L D E n c H' :=
  ⟨h.same.trans (but_mono s), let ⟨ls, g, ds, hL, a⟩ := h.led; ⟨ls, g, ds, hL.same s, a⟩⟩
theorem Led.list1 {C p L D E q : Addr} {H : Hp} {ls : List Int} {g : Good} {ds : List Deed} {xs ys : List V} (h : Led C H p L D E ls g ds) (hq : H q = some (.lst xs)) (n : q ∉ [L, D, E]) : Led C (upd H q (.lst ys)) p L D E ls g ds := by
  refine h.keep (S := [q]) (fun a ha => ?_) ⟨?_, ?_, ?_⟩ (by rw [but_upd (by simp)]; exact Same.refl _)
  · rw [List.mem_singleton.mp ha]
    exact ⟨_, hq⟩
  all_goals
    intro z
    rw [List.mem_singleton] at z
    exact n (by rw [← z]; simp)
theorem B37.list {K : PySem.W.Frag} {C p L D E q : Addr} {G H : Hp} {n c : Nat} {xs ys : List V} (h : B37 K C G p L D E n c H) (hq : H q = some (.lst xs)) (hG : G q = none) (nq : q ∉ [L, D, E]) : B37 K C G p L D E n c (upd H q (.lst ys)) := by
  obtain ⟨s, ls, g, ds, hL, a⟩ := h
  refine ⟨fun b o e => ?_, ls, g, ds, hL.list1 hq nq, a⟩
  obtain ⟨z1, z2⟩ := but_is e
  have nb : b ≠ q := fun z => by rw [z, hG] at z2; cases z2
  exact but_at z1 (by rw [upd_ne nb]; exact (but_is (s _ _ e)).2)
theorem dp_strs {K : PySem.W.Frag} {H : Hp} : ∀ l : List Str, DpAll K H (l.map V.str) (l.map PyData.str)
  | [] => .nil
  | s :: l => .cons (.str s) (dp_strs l)
/-- what is told of the deeds taken back, the first i askings -/
def wds (m i : Nat) : List Str := (List.range i).map fun j => if j < m then "told" else "back"
theorem wds_succ (m i : Nat) : wds m (i + 1) = wds m i ++ [(if i < m then "told" else "back" : Str)] := by
  unfold wds
  rw [List.range_succ, List.map_append]
  rfl
def spLaw (K : PySem.W.Frag) : Sp := fun vs H Q _ => ∃ (a : Addr) (ns : List Int), vs = [.ref a] ∧ SqL K H a (ns.map V.int) ∧ ns.length ≤ 63 ∧ ∀ H', Q (.bl true) H'
theorem ok_law {f C : Addr} {fd : FuncData} (F : Fun K "law" "law" s_law f fd) (B : Bi mg) (D_spoilt_right : Def P w K mg base "_law_spoilt_right" 11 [] (spSpoR K)) (D_bakery : Def P w K mg base "_law_bakery" 2 ["_law_script", "_law_upto", "_law_salt"] (spBakery K)) (D_numbers : Def P w K mg base "_law_numbers" 1 ["_law_cell", "_law_salt", "_law_sizes"] (spNumbers K)) (D_asked : Def P w K mg base "_law_asked" 13 ["_law_ledger", "_law_word_here", "_law_things"] (spAsk37 K C)) (D_right : DefG P w K mg base "_law_right" 14 ["_law_ledger", "_law_digits"] (spRight37 K C)) (D_full : Def P w K mg base "_law_full" 14 ["_law_ledger"] (spFull K C)) (MK_Ledger : Maker P w K mg base "Ledger" 9 C (spLInit K C)) (T_change : C8.Met P w K mg base 12 C "change" (spLChange K C) []) : RunG P w K mg base 15 f fd ["_law_script"] (spLaw K) := by
  refine runG_of F sc_law (fun vs H Q E h => ?_) (fun cdv A outer s H vs Q E hG hr h => ?_)
  · obtain ⟨a, ns, rfl, _⟩ := h
    rfl
  · obtain ⟨a, ns, rfl, hS, hlen, q⟩ := h
    refine ⟨_, (pss_cons (ps_if (pt_not (pt_val (pe_callD0 D_spoilt_right hr (by rfl)))) (pss_one (ps_ret pe_bl)) pss_nil)
 (pss_cons (ps_set (i := 1) sc_law.nd rfl (Or.inl rfl) (pe_callD D_bakery hr (by rfl) (pa_cons (pv 0) (pa_cons pe_int (pa_cons pe_int pa_nil)))))
 (pss_cons (ps_set (i := 2) sc_law.nd rfl (Or.inr rfl) (pe_mkD MK_Ledger hr (by rfl) (pa_cons (pv 1) pa_nil)))
 (pss_cons (ps_set (i := 3) sc_law.nd rfl (Or.inl rfl) (pe_tup (pa_cons (pe_ix ix_tup (pv 1) pe_int (fun _ _ => rfl)) (pa_cons pe_non (pa_cons (pe_op op_rep (pe_ix ix_tup (pv 1) pe_int (fun _ _ => rfl)) pe_int) pa_nil)))))
 (pss_cons (ps_for PassesOwn.never rfl (pi_list (pe_lst (pa_cons (pe_tup (pa_cons pe_non (pa_cons pe_str pa_nil))) (pa_cons (pe_tup (pa_cons (pv 3) (pa_cons pe_str pa_nil))) (pa_cons (pe_tup (pa_cons (pe_op op_catA (pe_op op_catA (pe_slice sl_tupA (pv 1) po_none (po_some pe_int)) (pe_tup (pa_cons pe_int pa_nil))) (pe_slice sl_tupA (pv 1) (po_some pe_int) po_none)) (pa_cons pe_str pa_nil))) (pa_cons (pe_tup (pa_cons (pe_lst pa_nil) (pa_cons pe_str pa_nil))) pa_nil)))))) (pg_tup rfl (pgs_cons (pg_name (i := 4) sc_law.nd rfl (Or.inl rfl)) (pgs_cons (pg_name (i := 5) sc_law.nd rfl (Or.inl rfl)) pgs_nil))) (pss_one (ps_if (pt_cmpR op_ne (pe_callD D_asked hr (by rfl) (pa_cons (pv 2) (pa_cons pe_str (pa_cons (pe_lst (pa_cons (pv 4) pa_nil)) pa_nil)))) (pv 5) (nomark _)) (pss_one (ps_ret pe_bl)) pss_nil)))
 (pss_cons (ps_if (pt_cmpR op_ne (pe_callD D_asked hr (by rfl) (pa_cons (pv 2) (pa_cons pe_str (pa_cons (pe_lst pa_nil) pa_nil)))) pe_str (nomark _)) (pss_one (ps_ret pe_bl)) pss_nil)
 (pss_cons (ps_for PassesOwn.never rfl (pi_enum (by rfl) B.enumerate (pa_cons (pe_op op_cat (pe_lst (pa_cons pe_int pa_nil)) (pe_slice sl_list (pv 0) (po_some pe_int) (po_some pe_int))) pa_nil)) (pg_tup rfl (pgs_cons (pg_name (i := 6) sc_law.nd rfl (Or.inl rfl)) (pgs_cons (pg_name (i := 7) sc_law.nd rfl (Or.inl rfl)) pgs_nil))) (pss_cons (ps_set (i := 8) sc_law.nd rfl (Or.inl rfl) (pe_callD D_numbers hr (by rfl) (pa_cons (pv 7) (pa_cons (pe_op op_add pe_int (pv 6)) (pa_cons (pe_lst (pa_cons pe_int (pa_cons pe_int (pa_cons (pe_op op_pow pe_int pe_int) (pa_cons pe_int (pa_cons pe_int (pa_cons pe_int (pa_cons pe_int (pa_cons pe_int pa_nil))))))))) pa_nil)))))
 (pss_cons (ps_if (pt_not (pt_val (pe_callDG D_right hG hr (by rfl) (pa_cons (pv 2) (pa_cons (pv 8) pa_nil))))) (pss_one (ps_ret pe_bl)) pss_nil)
 (pss_one (ps_if (pt_cmpR op_eq (pv 6) pe_int (nomark _)) (pss_one (ps_expr (pe_mt T_change hr (by omega) (pv 2) (pa_cons pe_int (pa_cons pe_str (pa_cons pe_int pa_nil)))))) pss_nil)))))
 (pss_cons (ps_for PassesOwn.never rfl (pi_list (pe_lst (pa_cons (pe_tup (pa_cons (pe_lst (pa_cons pe_int (pa_cons pe_str (pa_cons pe_int pa_nil)))) (pa_cons pe_str pa_nil))) (pa_cons (pe_tup (pa_cons (pe_lst (pa_cons pe_bl (pa_cons pe_str (pa_cons pe_int pa_nil)))) (pa_cons pe_str pa_nil))) (pa_cons (pe_tup (pa_cons (pe_lst (pa_cons pe_int (pa_cons pe_str (pa_cons pe_bl pa_nil)))) (pa_cons pe_str pa_nil))) pa_nil))))) (pg_tup rfl (pgs_cons (pg_name (i := 9) sc_law.nd rfl (Or.inl rfl)) (pgs_cons (pg_name (i := 10) sc_law.nd rfl (Or.inl rfl)) pgs_nil))) (pss_one (ps_if (pt_cmpR op_ne (pe_callD D_asked hr (by rfl) (pa_cons (pv 2) (pa_cons pe_str (pa_cons (pv 9) pa_nil)))) (pv 10) (nomark _)) (pss_one (ps_ret pe_bl)) pss_nil)))
 (pss_cons (ps_if (PW.pt (pw_or (pt_cmpR op_ne (pe_callD D_asked hr (by rfl) (pa_cons (pv 2) (pa_cons pe_str (pa_cons (pe_lst (pa_cons pe_int (pa_cons pe_str pa_nil))) pa_nil)))) pe_str (nomark _)) (pw_or1 (pt_cmpR op_eq (pe_callD D_asked hr (by rfl) (pa_cons (pv 2) (pa_cons pe_str (pa_cons (pe_lst (pa_cons pe_int (pa_cons pe_str pa_nil))) pa_nil)))) pe_str (nomark _))))) (pss_one (ps_ret pe_bl)) pss_nil)
 (pss_cons (ps_set (i := 11) sc_law.nd rfl (Or.inl rfl) (pe_callD D_full hr (by rfl) (pa_cons (pv 2) pa_nil)))
 (pss_cons (ps_if (pt_cmpR op_isN (pv 11) pe_non (nomark _)) (pss_one (ps_ret pe_bl)) pss_nil)
 (pss_cons (ps_if (PW.pt (pw_or (pt_cmpR op_ne (pe_callD D_asked hr (by rfl) (pa_cons (pv 11) (pa_cons pe_str (pa_cons (pe_lst (pa_cons pe_int (pa_cons (pe_tup (pa_cons pe_int (pa_cons pe_int (pa_cons pe_int (pa_cons pe_non pa_nil))))) pa_nil))) pa_nil)))) pe_str (nomark _)) (pw_or1 (pt_cmpR op_ne (pe_callD D_asked hr (by rfl) (pa_cons (pv 11) (pa_cons pe_str (pa_cons (pe_lst (pa_cons (pe_un un_neg pe_int) (pa_cons pe_non pa_nil))) pa_nil)))) pe_str (nomark _))))) (pss_one (ps_ret pe_bl)) pss_nil)
 (pss_cons (ps_set (i := 12) sc_law.nd rfl (Or.inl rfl) (pe_op op_add pe_int (pe_callTy call_in1 (by rfl) B.int (by decide +kernel) (pa_cons (pe_cmpR op_gt (pe_callB call_lnL (by rfl) B.len (by decide +kernel) (pa_cons (pv 0) pa_nil)) pe_int (nomark _)) pa_nil))))
 (pss_cons (ps_if (pt_cmpR (op_neD hr.units) (pe_lc (own := [("_law_turn", 13)]) (g := (gName 13)) rfl sc_law.nd (pi_range1 (by rfl) B.range (pa_cons (pe_op op_add (pv 12) pe_int) pa_nil)) (blkOk_by (own := [("_law_turn", 13)]) (N := ["_law_script", "_law_bakery_here", "_law_ledger", "_law_two", "_law_thing_here", "_law_due", "_law_k", "_law_cell", "_law_digits", "_law_things", "_law_word_here", "_law_full_here", "_law_deeds", "_law_turn"]) (sc := defScope s_law) (by decide +kernel)) (fun _ _ _ _ _ => (pg_name (i := 13) sc_law.nd rfl (Or.inl rfl))) (fun _ _ _ _ _ => pts_nil) (fun _ _ _ _ _ => (pe_callD D_asked hr (by rfl) (pa_cons (pv 2) (pa_cons pe_str (pa_cons (pe_lst pa_nil) pa_nil)))))) (pe_op op_catL (pe_op op_rep (pe_lst (pa_cons pe_str pa_nil)) (pv 12)) (pe_lst (pa_cons pe_str pa_nil))) (nomark _)) (pss_one (ps_ret pe_bl)) pss_nil)
 (pss_one (ps_ret (pe_and (pe_cmpR op_eq (pe_callD D_asked hr (by rfl) (pa_cons (pv 11) (pa_cons pe_str (pa_cons (pe_lst (pa_cons pe_int (pa_cons (pe_tup (pa_cons pe_int (pa_cons pe_int pa_nil))) pa_nil))) pa_nil)))) pe_str (nomark _)) (pe_one (pe_cmpR op_eq (pe_callD D_asked hr (by rfl) (pa_cons (pv 11) (pa_cons pe_str (pa_cons (pe_lst pa_nil) pa_nil)))) pe_str (nomark _)))))))))))))))))))), ?_⟩
    refine seq3 (fun σ' H' => ∃ (x : V) (p L D E' : Addr) (ls : List Int) (g : Good), σ' = [some (.ref a), some x, some (.ref p), none, none, none, none, none, none, none, none, none, none, none] ∧ Led C H' p L D E' ls g [] ∧ Tk (but [L, D, E'] H') x (bakD ⟨ls, none, [g]⟩) ∧ SqL K (but [L, D, E'] H') a (ns.map V.int)) (fun σ1 H1 hm => ?_) (fun N hN => ?_)
    rotate_left
    · unfold tMake
      walk_at "wp"
      refine ⟨rfl, fun H1 S1 => ?_⟩
      walk_at "wp"
      refine ⟨a, ns, 4, 3700, rfl, S1.seq hS, hlen, by decide, by decide, by decide, fun H2 x ls g S2 hx hb hll => ?_⟩
      have hx1 := hx.same (newOf_same _ _)
      walk_at "wp"
      intro p dx np nd ne
      have s0 : Same H2 (upd (upd H2 dx (.own p)) p (.ins C dx [])) := fun b o e => by
        rw [upd_ne (ne_of_none e np), upd_ne (ne_of_none e nd)]
        exact e
      refine ⟨H2, p, dx, x, ls, g, rfl, s0, np, upd_same, hx1, hb, fun H3 L D E' S3 nL nD nE hL => ⟨rfl, ?_⟩⟩
      have sb := same_but S3 nL nD nE
      exact hN _ _ ⟨x, p, L, D, E', ls, g, rfl, hL, hx1.same sb, sb.seq ((S1.trans S2).seq hS)⟩
    obtain ⟨x, p, L, D, E', ls, g, rfl, hL, hx, ha⟩ := hm
    obtain ⟨⟨c1, c2⟩, c3, _, _, c7⟩ := bak_parts hL.ok
    obtain ⟨c8, c9, hok⟩ := c7 g (List.mem_singleton.mpr rfl)
    dsimp only at c1 c2 c3 c8
    have B1 : B37 K C H1 p L D E' ls.length 0 H1 := ⟨Same.refl _, ls, g, [], hL, rfl, rfl, fun d hd => by cases hd⟩
    refine seq2 (fun σ' H' => ∃ (y3 y4 y5 : Option V), σ' = [some (.ref a), some x, some (.ref p), y3, y4, y5, none, none, none, none, none, none, none, none] ∧ B37 K C H1 p L D E' ls.length 0 H') (fun σ1 H2 hm => ?_) (fun N hN => ?_)
    rotate_left
    · have hx0 := hx.same (but_same _ _)
      obtain ⟨t, al, ga, tg, ad, xs, e1, h2, h3, h4, h5, h6, h7⟩ := tk_bak1 hx0
      subst e1
      have hthg : Th K H1 (.ref tg) (goodD g) := by
        have hda : TkAll H1 xs (g.days.map dayD) := h7.same (fun b o e => (tupsOf_is e).1)
        exact (Tk.tup h5 (.cons (.lst h6 hda) (.cons (Tk.optV _) .nil))).th
      have hl : Th K H1 (.ref al) (.list (ls.map PyData.int)) := .lst (SqL.of h3) (ThAll.ints ls)
      walk_at "wp"
      refine ⟨_, _, SqT.of h2, atI_nat (j := 0) rfl, ?_⟩
      refine ⟨_, _, SqT.of h2, atI_nat (j := 2) rfl, ?_⟩
      walk_at "wp"
      refine ⟨_, h4, by decide, by decide, sz100 (by show 1 * 2 ≤ _; decide), fun p1 n1 => ?_⟩
      obtain ⟨G1, f1, T1, E1⟩ := alloc (.lst (List.replicate (Int.toNat 2) [V.ref tg]).flatten) n1
      rw [f1]
      refine ⟨sz100 (by decide), fun p2 n2 => ?_⟩
      obtain ⟨G2, f2, T2, E2⟩ := alloc (.tup [V.ref al, V.non, V.ref p1]) n2
      rw [f2]
      have T12 := T1.trans T2
      have two : Th K G2 (.ref p2) (bakD ⟨ls, none, [g, g]⟩) := .tup (SqT.of E2) (.cons (hl.same T12) (.cons .non (.cons (.lst (SqL.of (T2 _ _ E1)) (.cons (hthg.same T12) (.cons (hthg.same T12) .nil))) .nil)))
      refine ⟨sz100 (by decide), fun p3 n3 => ?_⟩
      obtain ⟨G3, f3, T3, E3⟩ := alloc (.tup [V.non, V.str (Str.ofString "bakery")]) n3
      rw [f3]
      refine ⟨sz100 (by decide), fun p4 n4 => ?_⟩
      obtain ⟨G4, f4, T4, E4⟩ := alloc (.tup [V.ref p2, V.str (Str.ofString "plain")]) n4
      rw [f4]
      have U4 := T1.trans (T2.trans (T3.trans T4))
      refine ⟨t, _, rfl, SqT.of (U4 _ _ h2), fun z => absurd z (show ¬ (HT.sIx 3 0 none = 0 ∧ HT.sIx 3 3 (some 1) = 3) by decide), fun _ p5 n5 => ?_⟩
      obtain ⟨G5, f5, T5, E5⟩ := alloc (.tup (cutV [V.ref al, V.non, V.ref ga] none (some 1))) n5
      rw [f5]
      refine ⟨sz100 (by decide), fun p6 n6 => ?_⟩
      obtain ⟨G6, f6, T6, E6⟩ := alloc (.tup [V.int 5]) n6
      rw [f6]
      refine ⟨p5, p6, _, _, rfl, rfl, SqT.of (T6 _ _ E5), SqT.of E6, sz100 (by show 1 + 1 ≤ _; decide), fun z => (by cases z), fun _ z => (by cases z), fun _ _ p7 n7 => ?_⟩
      obtain ⟨G7, f7, T7, E7⟩ := alloc (.tup (cutV [V.ref al, V.non, V.ref ga] none (some 1) ++ [V.int 5])) n7
      rw [f7]
      have U7 := U4.trans (T5.trans (T6.trans T7))
      refine ⟨t, _, rfl, SqT.of (U7 _ _ h2), fun z => absurd z (show ¬ (HT.sIx 3 0 (some 2) = 0 ∧ HT.sIx 3 3 none = 3) by decide), fun _ p8 n8 => ?_⟩
      obtain ⟨G8, f8, T8, E8⟩ := alloc (.tup (cutV [V.ref al, V.non, V.ref ga] (some 2) none)) n8
      rw [f8]
      refine ⟨p7, p8, _, _, rfl, rfl, SqT.of (T8 _ _ E7), SqT.of E8, sz100 (by show 2 + 1 ≤ _; decide), fun z => (by cases z), fun _ z => (by cases z), fun _ _ p9 n9 => ?_⟩
      obtain ⟨G9, f9, T9, E9⟩ := alloc (.tup ((cutV [V.ref al, V.non, V.ref ga] none (some 1) ++ [V.int 5]) ++ cutV [V.ref al, V.non, V.ref ga] (some 2) none)) n9
      rw [f9]
      refine ⟨sz100 (by decide), fun p10 n10 => ?_⟩
      obtain ⟨G10, f10, T10, E10⟩ := alloc (.tup [V.ref p9, V.str (Str.ofString "plain")]) n10
      rw [f10]
      refine ⟨sz100 (by decide), fun p11 n11 => ?_⟩
      obtain ⟨G11, f11, T11, E11⟩ := alloc (.lst []) n11
      rw [f11]
      refine ⟨sz100 (by decide), fun p12 n12 => ?_⟩
      obtain ⟨G12, f12, T12', E12⟩ := alloc (.tup [V.ref p11, V.str (Str.ofString "bakery")]) n12
      rw [f12]
      refine ⟨sz100 (by decide), fun p13 n13 => ?_⟩
      obtain ⟨G13, f13, T13, E13⟩ := alloc (.lst [V.ref p3, V.ref p4, V.ref p10, V.ref p12]) n13
      rw [f13]
      have U9 := U7.trans (T8.trans T9)
      have U13 := U9.trans (T10.trans (T11.trans (T12'.trans T13)))
      have hbad : Th K G9 (.ref p9) (bakD ⟨ls, some 5, [g]⟩) := .tup (SqT.of E9) (.cons (hl.same U9) (.cons (.int 5) (.cons (.lst (SqL.of (U9 _ _ h4)) (.cons (hthg.same U9) .nil)) .nil)))
      have g1 : bakB (bakD ⟨ls, none, [g, g]⟩) = true := bakB_mk c1 c2 c3 rfl (show 1 ≤ 2 by decide) (show 2 ≤ 2 by decide) (fun z hz => by
        have : z = g := by simpa using hz
        subst this
        exact ⟨c8, c9, hok⟩)
      have g2 : bakB (bakD ⟨ls, some 5, [g]⟩) = true := bakB_mk c1 c2 c3 (show boundB (.int 5) = true by decide) (show 1 ≤ 1 by decide) (show 1 ≤ 2 by decide) (fun z hz => by
        have : z = g := by simpa using hz
        subst this
        exact ⟨c8, c9, hok⟩)
      let es : List (Addr × V × PyData × Str) := [(p3, .non, .none, "bakery"), (p4, .ref p2, bakD ⟨ls, none, [g, g]⟩, "plain"), (p10, .ref p9, bakD ⟨ls, some 5, [g]⟩, "plain"), (p12, .ref p11, .list [], "bakery")]
      have hes : ∀ e ∈ es, G13 e.1 = some (.tup [e.2.1, .str e.2.2.2]) ∧ Th K G13 e.2.1 e.2.2.1 ∧ OkL e.2.2.1 e.2.2.2 := fun e he => by
        have V2 : Same G2 G13 := T3.trans (T4.trans (T5.trans (T6.trans (T7.trans (T8.trans (T9.trans (T10.trans (T11.trans (T12'.trans T13)))))))))
        have V3 : Same G3 G13 := T4.trans (T5.trans (T6.trans (T7.trans (T8.trans (T9.trans (T10.trans (T11.trans (T12'.trans T13))))))))
        have V4 : Same G4 G13 := T5.trans (T6.trans (T7.trans (T8.trans (T9.trans (T10.trans (T11.trans (T12'.trans T13)))))))
        have V9 : Same G9 G13 := T10.trans (T11.trans (T12'.trans T13))
        have V10 : Same G10 G13 := T11.trans (T12'.trans T13)
        have V11 : Same G11 G13 := T12'.trans T13
        simp only [es, List.mem_cons, List.not_mem_nil, or_false] at he
        rcases he with rfl | rfl | rfl | rfl
        · exact ⟨V3 _ _ E3, .non, .inl ⟨⟨_, _, rfl⟩, rfl⟩⟩
        · exact ⟨V4 _ _ E4, two.same V2, .inr ⟨⟨_, rfl, g1, rfl⟩, rfl⟩⟩
        · exact ⟨V10 _ _ E10, hbad.same V9, .inr ⟨⟨_, rfl, g2, rfl⟩, rfl⟩⟩
        · exact ⟨T13 _ _ E12, .lst (SqL.of (V11 _ _ E11)) .nil, .inl ⟨⟨_, _, rfl⟩, rfl⟩⟩
      have e13 : G13 p13 = some (.lst (es.map fun e => V.ref e.1)) := E13
      refine ⟨⟨_, SqL.of e13⟩, ?_⟩
      refine LoopR.by (walk_list (xs := es.map fun e => V.ref e.1)) (fun i σ H' => ∃ y4 y5, σ = [some (.ref a), some (.ref t), some (.ref p), some (.ref p2), y4, y5, none, none, none, none, none, none, none, none] ∧ Same G13 H') ⟨none, none, rfl, Same.refl _⟩ (fun i σ H' _ hI => by obtain ⟨_, _, _, S⟩ := hI; exact S.seq (SqL.of e13)) (fun i v σ H0 H3 hi hI yy => ?_) (fun σ H3 hI => ?_)
      · obtain ⟨rfl, hxi⟩ := yy
        obtain ⟨y4, y5, rfl, S⟩ := hI
        rw [List.getElem?_map] at hxi
        cases he : es[i]? with
        | none => rw [he] at hxi; cases hxi
        | some e =>
          rw [he] at hxi
          cases hxi
          obtain ⟨k1, k2, k3⟩ := hes e (List.mem_of_getElem? he)
          obtain ⟨pe, ve, de, we⟩ := e
          walk_at "wp"
          refine ⟨_, Same.tup S (SqT.of k1), rfl, ?_⟩
          walk_at "wp"
          refine ⟨sz100 (by decide), fun q1 m1 => ?_⟩
          obtain ⟨K1, w1, U1, W1⟩ := alloc (.lst [ve]) m1
          rw [w1]
          refine .inr (.inr (.inr (.inr ⟨.ref p, q1, ve, de, rfl, SqL.of W1, (k2.same S).same U1, ?_⟩)))
          rcases k3 with ⟨hw, e3⟩ | ⟨hw, e3⟩
          · have e3 : we = "bakery" := e3
            subst e3
            refine .inl ⟨hw, fun H' S' => ?_⟩
            walk_at "wp"
            exact ⟨_, _, ⟨rfl, rfl⟩, S.trans (U1.trans S')⟩
          · have e3 : we = "plain" := e3
            subst e3
            refine .inr ⟨hw, fun H' S' => ?_⟩
            walk_at "wp"
            exact ⟨_, _, ⟨rfl, rfl⟩, S.trans (U1.trans S')⟩
      · obtain ⟨y4, y5, rfl, S⟩ := hI
        exact hN _ _ ⟨_, _, _, rfl, B1.mono (U13.trans S)⟩
    obtain ⟨y3, y4, y5, rfl, B2⟩ := hm
    refine seq1 (fun σ' H' => σ' = [some (.ref a), some x, some (.ref p), y3, y4, y5, none, none, none, none, none, none, none, none] ∧ B37 K C H1 p L D E' ls.length 0 H') (fun σ1 H3 hm => ?_) (fun N hN => ?_)
    rotate_left
    · walk_at "wp"
      refine ⟨sz100 (by decide), fun q1 m1 => ?_⟩
      obtain ⟨K1, w1, U1, W1⟩ := alloc (.lst []) m1
      rw [w1]
      obtain ⟨ls', g', ds, hL', e1, e2, _⟩ := B2.led
      obtain rfl : ds = [] := List.length_eq_zero_iff.mp e2
      refine .inr (.inr (.inr (.inl ⟨p, L, D, E', ls', g', [], q1, rfl, hL'.same U1, .inl ⟨rfl, fun H' S' => ?_⟩⟩)))
      walk_at "wp"
      exact hN _ _ ⟨rfl, B2.mono (U1.trans S')⟩
    obtain ⟨rfl, B3⟩ := hm
    let cc : Nat := if 8 < ns.length then 1 else 0
    refine seq1 (fun σ' H' => ∃ y6 y7 y8 : Option V, σ' = [some (.ref a), some x, some (.ref p), y3, y4, y5, y6, y7, y8, none, none, none, none, none] ∧ B37 K C H1 p L D E' ls.length cc H') (fun σ1 H4 hm => ?_) (fun N hN => ?_)
    rotate_left
    · have ha3 : SqL K H3 a (ns.map V.int) := (but_same _ _).seq (B3.same.seq ha)
      let cl : List Int := 3 :: (ns.drop 4).take 40
      have hcl : [V.int 3] ++ cutV (ns.map V.int) (some 4) (some 44) = cl.map V.int := by
        rw [show cutV (ns.map V.int) (some 4) (some 44) = ((ns.map V.int).drop 4).take (44 - 4) from cutV_nat _ 4 44, ← List.map_drop, ← List.map_take]
        rfl
      have hclen : cl.length = 1 + min 40 (ns.length - 4) := by
        show ((ns.drop 4).take 40).length + 1 = _
        rw [List.length_take, List.length_drop]
        omega
      walk_at "wp"
      refine ⟨sz100 (by decide), fun q1 m1 => ?_⟩
      obtain ⟨K1, w1, U1, W1⟩ := alloc (.lst [V.int 3]) m1
      rw [w1]
      refine ⟨_, U1.seq ha3, fun q2 m2 => ?_⟩
      obtain ⟨K2, w2, U2, W2⟩ := alloc (.lst (cutV (ns.map V.int) (some 4) (some 44))) m2
      rw [w2]
      refine ⟨_, _, U2 _ _ W1, W2, sz100 (by have := congrArg List.length hcl; rw [List.length_append, List.length_map, hclen] at this; omega), fun q3 m3 => ?_⟩
      rw [hcl]
      obtain ⟨K3, w3, U3, W3⟩ := alloc (.lst (cl.map V.int)) m3
      rw [w3]
      have U13 := U1.trans (U2.trans U3)
      have B4 := B3.mono U13
      have nS : ∀ {H' : Hp} {q : Addr}, B37 K C H1 p L D E' ls.length 0 H' → H' q = none → q ∉ [L, D, E'] := fun b z => by
        obtain ⟨_, _, _, hL', _⟩ := b.led
        exact hL'.not_new z
      have hq3 : but [L, D, E'] K3 q3 = some (.lst (cl.map V.int)) := but_at (nS (B3.mono (U1.trans U2)) m3) W3
      refine ⟨_, SqL.of W3, ?_⟩
      refine LoopR.by (walk_enum (xs := cl.map V.int)) (fun i σ H' => ∃ y6 y7 y8 : Option V, σ = [some (.ref a), some x, some (.ref p), y3, y4, y5, y6, y7, y8, none, none, none, none, none] ∧ B37 K C H1 p L D E' ls.length (if 5 < i then 1 else 0) H' ∧ Same (but [L, D, E'] K3) (but [L, D, E'] H')) ⟨none, none, none, rfl, B4, Same.refl _⟩ (fun i σ H' _ hI => by obtain ⟨_, _, _, _, _, S⟩ := hI; exact SqL.of (but_is (S _ _ hq3)).2) (fun i v σ H0 H5 hi hI yy => ?_) (fun σ H5 hI => ?_)
      · rw [List.length_map] at hi
        obtain ⟨y6, y7, y8, rfl, B5, SK⟩ := hI
        have SY := ypair_same yy
        obtain ⟨T, z1, z2, rfl, hT, rfl, e1, e2⟩ := yy
        cases e1
        have e2 : (cl.map V.int)[i]? = some z2 := e2
        rw [List.getElem?_map, List.getElem?_eq_getElem hi] at e2
        cases e2
        have eT : upd H0 T (.tup [V.int (i : Int), V.int cl[i]]) T = some (.tup [V.int (i : Int), V.int cl[i]]) := upd_same
        have B6 := B5.mono SY
        have SK6 := SK.trans (but_mono SY)
        generalize upd H0 T (.tup [V.int (i : Int), V.int cl[i]]) = H6 at SY eT B6 SK6 ⊢
        generalize cl[i] = c at eT ⊢
        walk_at "wp"
        refine ⟨_, SqT.of eT, rfl, ?_⟩
        walk_at "wp"
        refine ⟨⟨by decide, by decide, by decide⟩, sz100 (by decide), fun q4 m4 => ?_⟩
        obtain ⟨K4, w4, U4, W4⟩ := alloc (.lst [V.int 3, V.int 12, V.int (10 ^ Int.toNat 9), V.int 14, V.int 12, V.int 12, V.int 12, V.int 12]) m4
        rw [w4]
        refine ⟨c, 3710 + (i : Int), q4, [3, 12, 1000000000, 14, 12, 12, 12, 12], rfl, SqL.of W4, by omega, by omega, by decide, (by decide : ∀ z ∈ [(3 : Int), 12, 1000000000, 14, 12, 12, 12, 12], 0 < z ∧ z.natAbs < 2 ^ 200), fun K5 pd fs U5 hpd hD hfs => ?_⟩
        obtain ⟨f0, f2, i1, i3, i4, i5, i6, i7, rfl, b0, b1, b3, b4, b5, b6, b7, b2⟩ := digs8 hD
        have B7 := (B6.mono U4).mono U5
        have SK7 := SK6.trans (but_mono (U4.trans U5))
        obtain ⟨ls', g', ds, hL', e3, e4, e5⟩ := B7.led
        have npd : pd ∉ [L, D, E'] := by
          obtain ⟨_, _, _, hL6, _⟩ := (B6.mono U4).led
          exact hL6.not_new hpd
        have hds1 : ds.length ≤ 1 := by rw [e4]; split <;> omega
        refine ⟨p, L, D, E', ls', g', ds, pd, f0, f2, i1, i3, i4, i5, i6, i7, rfl, hL', by omega, ⟨SqL.of (but_at npd hfs), b1, b3, b4, b5, b6, b7, b2⟩, fun K6 S6 hL6 => ?_⟩
        walk_at "wp"
        have B8 : B37 K C H1 p L D E' ls.length (if 5 < i then 1 else 0) K6 := ⟨B7.same.trans S6, ls', g', ds, hL6, e3, e4, e5⟩
        have SK8 := SK7.trans S6
        by_cases h5 : i = 5
        · rw [if_pos (decide_eq_true (show (i : Int) = 5 by omega))]
          have e40 : ds = [] := List.length_eq_zero_iff.mp (by rw [e4, if_neg (by omega)])
          subst e40
          refine ⟨hL6.isObj, p, L, D, E', ls', g', [], 0, "want", some 3, rfl, hL6, Nat.zero_le _, by omega, by decide, by decide, fun K7 r bs cs S7 hL7 _ _ _ _ _ _ => ⟨_, _, _, ⟨rfl, rfl, rfl⟩, ⟨B8.same.trans S7, _, _, _, hL7, by rw [setLs_len]; exact e3, by rw [if_pos (by omega)]; rfl, fun d hd => ?_⟩, SK8.trans S7⟩⟩
          rw [List.nil_append, List.mem_singleton] at hd
          exact ⟨_, hd, worth_ok hL6 (by omega) (by decide)⟩
        · rw [if_neg (by rw [decide_eq_true_eq]; omega)]
          refine ⟨_, _, _, ⟨rfl, rfl, rfl⟩, ?_, SK8⟩
          have : (if 5 < i + 1 then 1 else 0) = (if 5 < i then 1 else 0) := by
            by_cases h : 5 < i
            · rw [if_pos h, if_pos (by omega)]
            · rw [if_neg h, if_neg (by omega)]
          rw [this]
          exact B8
      · obtain ⟨y6, y7, y8, rfl, B5, SK⟩ := hI
        rw [List.length_map] at B5
        refine hN _ _ ⟨y6, y7, y8, rfl, ?_⟩
        have : (if 5 < cl.length then 1 else 0) = cc := by
          show _ = if 8 < ns.length then 1 else 0
          by_cases h : 8 < ns.length
          · rw [if_pos h, if_pos (by omega)]
          · rw [if_neg h, if_neg (by omega)]
        rw [← this]
        exact B5
    obtain ⟨y6, y7, y8, rfl, B4⟩ := hm
    refine seq1 (fun σ' H' => ∃ y9 y10 : Option V, σ' = [some (.ref a), some x, some (.ref p), y3, y4, y5, y6, y7, y8, y9, y10, none, none, none] ∧ B37 K C H1 p L D E' ls.length (cc + 1) H') (fun σ1 H5 hm => ?_) (fun N hN => ?_)
    rotate_left
    · walk_at "wp"
      refine ⟨sz100 (by decide), fun q1 m1 => ?_⟩
      obtain ⟨K1, w1, U1, W1⟩ := alloc (.lst [V.int 0, V.str (Str.ofString "want"), V.int 1]) m1
      rw [w1]
      refine ⟨sz100 (by decide), fun q2 m2 => ?_⟩
      obtain ⟨K2, w2, U2, W2⟩ := alloc (.tup [V.ref q1, V.str (Str.ofString "told")]) m2
      rw [w2]
      refine ⟨sz100 (by decide), fun q3 m3 => ?_⟩
      obtain ⟨K3, w3, U3, W3⟩ := alloc (.lst [V.bl false, V.str (Str.ofString "want"), V.int 1]) m3
      rw [w3]
      refine ⟨sz100 (by decide), fun q4 m4 => ?_⟩
      obtain ⟨K4, w4, U4, W4⟩ := alloc (.tup [V.ref q3, V.str (Str.ofString "day")]) m4
      rw [w4]
      refine ⟨sz100 (by decide), fun q5 m5 => ?_⟩
      obtain ⟨K5, w5, U5, W5⟩ := alloc (.lst [V.int 0, V.str (Str.ofString "want"), V.bl true]) m5
      rw [w5]
      refine ⟨sz100 (by decide), fun q6 m6 => ?_⟩
      obtain ⟨K6, w6, U6, W6⟩ := alloc (.tup [V.ref q5, V.str (Str.ofString "number")]) m6
      rw [w6]
      refine ⟨sz100 (by decide), fun q7 m7 => ?_⟩
      obtain ⟨K7, w7, U7, W7⟩ := alloc (.lst [V.ref q2, V.ref q4, V.ref q6]) m7
      rw [w7]
      have N1 : but [L, D, E'] K7 q1 = _ := but_at (by obtain ⟨_, _, _, hL0, _⟩ := (B4.mono (Same.refl _)).led; exact hL0.not_new m1) ((U2.trans (U3.trans (U4.trans (U5.trans (U6.trans (U7)))))) _ _ W1)
      have N2 : but [L, D, E'] K7 q2 = _ := but_at (by obtain ⟨_, _, _, hL0, _⟩ := (B4.mono (U1)).led; exact hL0.not_new m2) ((U3.trans (U4.trans (U5.trans (U6.trans (U7))))) _ _ W2)
      have N3 : but [L, D, E'] K7 q3 = _ := but_at (by obtain ⟨_, _, _, hL0, _⟩ := (B4.mono (U1.trans (U2))).led; exact hL0.not_new m3) ((U4.trans (U5.trans (U6.trans (U7)))) _ _ W3)
      have N4 : but [L, D, E'] K7 q4 = _ := but_at (by obtain ⟨_, _, _, hL0, _⟩ := (B4.mono (U1.trans (U2.trans (U3)))).led; exact hL0.not_new m4) ((U5.trans (U6.trans (U7))) _ _ W4)
      have N5 : but [L, D, E'] K7 q5 = _ := but_at (by obtain ⟨_, _, _, hL0, _⟩ := (B4.mono (U1.trans (U2.trans (U3.trans (U4))))).led; exact hL0.not_new m5) ((U6.trans (U7)) _ _ W5)
      have N6 : but [L, D, E'] K7 q6 = _ := but_at (by obtain ⟨_, _, _, hL0, _⟩ := (B4.mono (U1.trans (U2.trans (U3.trans (U4.trans (U5)))))).led; exact hL0.not_new m6) ((U7) _ _ W6)
      have N7 : but [L, D, E'] K7 q7 = _ := but_at (by obtain ⟨_, _, _, hL0, _⟩ := (B4.mono (U1.trans (U2.trans (U3.trans (U4.trans (U5.trans (U6))))))).led; exact hL0.not_new m7) ((Same.refl _) _ _ W7)
      have B5 := B4.mono (U1.trans (U2.trans (U3.trans (U4.trans (U5.trans (U6.trans (U7)))))))
      refine ⟨⟨_, SqL.of W7⟩, ?_⟩
      refine LoopR.by (walk_list (xs := [V.ref q2, V.ref q4, V.ref q6])) (fun i σ H' => ∃ y9 y10 : Option V, σ = [some (.ref a), some x, some (.ref p), y3, y4, y5, y6, y7, y8, y9, y10, none, none, none] ∧ B37 K C H1 p L D E' ls.length (cc + if 0 < i then 1 else 0) H' ∧ Same (but [L, D, E'] K7) (but [L, D, E'] H')) ⟨none, none, rfl, B5, Same.refl _⟩ (fun i σ H' _ hI => by obtain ⟨_, _, _, _, S⟩ := hI; exact SqL.of (but_is (S _ _ N7)).2) (fun i v σ H0 H6 hi hI yy => ?_) (fun σ H6 hI => ?_)
      · obtain ⟨rfl, hxi⟩ := yy
        obtain ⟨y9, y10, rfl, B6, SK⟩ := hI
        obtain ⟨ls', g', ds, hL', e3, e4, e5⟩ := B6.led
        have hcc : cc ≤ 1 := by show (if 8 < ns.length then 1 else 0) ≤ 1; split <;> omega
        have hds : ds.length ≤ 2 := by rw [e4]; split <;> omega
        have at6 : ∀ {q : Addr} {o : HO}, but [L, D, E'] K7 q = some o → H6 q = some o := fun e => (but_is (SK _ _ e)).2
        have hi : i < 3 := hi
        rcases (show i = 0 ∨ i = 1 ∨ i = 2 by omega) with rfl | rfl | rfl
        · cases hxi
          walk_at "wp"
          refine ⟨_, SqT.of (at6 N2), rfl, ?_⟩
          walk_at "wp"
          have e0 := chg_told (n := ls'.length) (by omega)
          refine .inr (.inl ⟨p, L, D, E', ls', g', ds, q1, .int 0, .str "want", .int 1, .int 0, .str "want", .int 1, rfl, hL', by omega, SqL.of (at6 N1), .int _, .str _, .int _, fun hne => absurd e0 hne, fun _ i s o a1 a2 a3 hi hs ho H' S' hLn => ?_⟩)
          walk_at "wp"
          cases a2
          have i0 : i = 0 := by injection a1 with a1; omega
          subst i0
          refine ⟨_, _, ⟨rfl, rfl⟩, ⟨B6.same.trans S', _, _, _, hLn, by rw [setLs_len]; exact e3, by rw [List.length_append, e4]; rfl, fun d hd => ?_⟩, SK.trans S'⟩
          rcases List.mem_append.mp hd with hd | hd
          · exact e5 d hd
          · rw [List.mem_singleton] at hd
            exact ⟨_, hd, worth_ok hL' hi (by decide)⟩
        · cases hxi
          walk_at "wp"
          refine ⟨_, SqT.of (at6 N4), rfl, ?_⟩
          walk_at "wp"
          have e0 : chgW ls'.length (.bool false) (.str "want") (.int 1) = "day" := rfl
          refine .inr (.inl ⟨p, L, D, E', ls', g', ds, q3, .bl false, .str "want", .int 1, .bool false, .str "want", .int 1, rfl, hL', by omega, SqL.of (at6 N3), .bl _, .str _, .int _, fun _ H' S' => ?_, fun ht => absurd ht (by rw [e0]; decide)⟩)
          rw [e0]
          walk_at "wp"
          exact ⟨_, _, ⟨rfl, rfl⟩, B6.mono S', SK.trans (but_mono S')⟩
        · cases hxi
          walk_at "wp"
          refine ⟨_, SqT.of (at6 N6), rfl, ?_⟩
          walk_at "wp"
          have e0 := chg_num (n := ls'.length) (by omega)
          refine .inr (.inl ⟨p, L, D, E', ls', g', ds, q5, .int 0, .str "want", .bl true, .int 0, .str "want", .bool true, rfl, hL', by omega, SqL.of (at6 N5), .int _, .str _, .bl _, fun _ H' S' => ?_, fun ht => absurd ht (by rw [e0]; decide)⟩)
          rw [e0]
          walk_at "wp"
          exact ⟨_, _, ⟨rfl, rfl⟩, B6.mono S', SK.trans (but_mono S')⟩
      · obtain ⟨y9, y10, rfl, B6, SK⟩ := hI
        exact hN _ _ ⟨y9, y10, rfl, B6⟩
    obtain ⟨y9, y10, rfl, B5⟩ := hm
    refine seq1 (fun σ' H' => σ' = [some (.ref a), some x, some (.ref p), y3, y4, y5, y6, y7, y8, y9, y10, none, none, none] ∧ B37 K C H1 p L D E' ls.length (cc + 1) H') (fun σ1 H6 hm => ?_) (fun N hN => ?_)
    rotate_left
    · walk_at "wp"
      refine ⟨sz100 (by decide), fun q1 m1 => ?_⟩
      obtain ⟨K1, w1, U1, W1⟩ := alloc (.lst [V.int 0, V.str (Str.ofString "want")]) m1
      rw [w1]
      have B6 := B5.mono U1
      obtain ⟨ls', g', ds, hL', e3, e4, e5⟩ := B6.led
      have e0 := chg_short (n := ls'.length) (by omega)
      refine .inr (.inr (.inl ⟨p, L, D, E', ls', g', ds, q1, .int 0, .str "want", .int 0, .str "want", rfl, hL', SqL.of W1, .int _, .str _, by rw [e0]; decide, fun H' S' => ?_⟩))
      rw [e0]
      walk_at "wp"
      refine ⟨sz100 (by decide), fun q2 m2 => ?_⟩
      obtain ⟨K2, w2, U2, W2⟩ := alloc (.lst [V.int 1, V.str (Str.ofString "want")]) m2
      rw [w2]
      have hL2 := (hL'.same S').same U2
      refine .inr (.inr (.inl ⟨p, L, D, E', ls', g', ds, q2, .int 1, .str "want", .int 1, .str "want", rfl, hL2, SqL.of W2, .int _, .str _, chg_one _, fun H'' S'' => ?_⟩))
      refine ⟨rfl, ?_⟩
      have en : decide (V.str (chgW ls'.length (.int 1) (.str "want") .none) = V.str (Str.ofString "told")) = false := decide_eq_false fun z => chg_one _ (by injection z)
      rw [en]
      exact hN _ _ ⟨rfl, B6.mono (S'.trans (U2.trans S''))⟩
    obtain ⟨rfl, B6⟩ := hm
    -- a full one
    refine seq3 (fun σ' H' => ∃ (p2 L2 D2 E2 : Addr) (ls2 : List Int) (g2 : Good), σ' = [some (.ref a), some x, some (.ref p), y3, y4, y5, y6, y7, y8, y9, y10, some (.ref p2), none, none] ∧ B37 K C H1 p L D E' ls.length (cc + 1) H' ∧ Led C H' p2 L2 D2 E2 ls2 g2 [] ∧ L2 ∉ [L, D, E'] ∧ D2 ∉ [L, D, E'] ∧ E2 ∉ [L, D, E']) (fun σ1 H7 hm => ?_) (fun N hN => ?_)
    rotate_left
    · obtain ⟨ls', g', ds, hL', e3, e4, e5⟩ := B6.led
      walk_at "wp"
      refine ⟨p, L, D, E', ls', g', ds, rfl, hL', fun H7 p2 L2 D2 E2 ls2 g2 S7 hL2 hl2 n1 n2 n3 => ?_⟩
      walk_at "wp"
      refine ⟨sz100 (by decide), fun q1 m1 => ?_⟩
      obtain ⟨K1, w1, U1, W1⟩ := alloc (.tup [V.int 1, V.int 2, V.int 3, V.non]) m1
      rw [w1]
      refine ⟨sz100 (by decide), fun q2 m2 => ?_⟩
      obtain ⟨K2, w2, U2, W2⟩ := alloc (.lst [V.int 1, V.ref q1]) m2
      rw [w2]
      have hd1 : Th K K2 (.ref q1) (dayD ⟨1, 2, 3, none⟩) := .tup (SqT.of (U2 _ _ W1)) (.cons (.int _) (.cons (.int _) (.cons (.int _) (.cons .non .nil))))
      have e0 : addW (.int 1) (dayD ⟨1, 2, 3, none⟩) ls2.length = "many" := by
        unfold addW
        rw [if_neg (by decide), if_neg (by decide), if_pos hl2]
      have hF2 := (hL2.same U1).same U2
      refine .inl ⟨p2, L2, D2, E2, ls2, g2, [], q2, .int 1, .ref q1, .int 1, dayD ⟨1, 2, 3, none⟩, rfl, hF2, Nat.zero_le _, SqL.of W2, .int _, hd1, fun _ => ⟨q1, ⟨1, 2, 3, none⟩, rfl, rfl, U2 _ _ W1⟩, fun _ H' S' => ?_, fun ht => absurd ht (by rw [e0]; decide)⟩
      rw [e0]
      walk_at "wp"
      refine ⟨sz100 (by decide), fun q3 m3 => ?_⟩
      obtain ⟨K3, w3, U3, W3⟩ := alloc (.lst [V.int (-1), V.non]) m3
      rw [w3]
      have hF3 := (hF2.same S').same U3
      have e1 : addW (.int (-1)) .none ls2.length = "number" := rfl
      refine .inl ⟨p2, L2, D2, E2, ls2, g2, [], q3, .int (-1), .non, .int (-1), .none, rfl, hF3, Nat.zero_le _, SqL.of W3, .int _, .non, fun h => (by cases h), fun _ H'' S'' => ?_, fun ht => absurd ht (by rw [e1]; decide)⟩
      rw [e1]
      walk_at "wp"
      refine hN _ _ ⟨p2, L2, D2, E2, ls2, g2, rfl, B6.mono (S7.trans (U1.trans (U2.trans (S'.trans (U3.trans S''))))), hF3.same S'', hL'.not_new n1, hL'.not_new n2, hL'.not_new n3⟩
    obtain ⟨p2, L2, D2, E2, ls2, g2, rfl, B7, hF, k1, k2, k3⟩ := hm
    -- all deeds taken back
    have keepF : ∀ {H' H'' : Hp}, Led C H' p2 L2 D2 E2 ls2 g2 [] → (∀ b ∈ [L, D, E'], ∃ xs, H' b = some (.lst xs)) → Same (but [L, D, E'] H') (but [L, D, E'] H'') → Led C H'' p2 L2 D2 E2 ls2 g2 [] := fun h hl s => h.keep (S := [L, D, E']) hl ⟨k1, k2, k3⟩ s
    refine seq2 (fun σ' H' => ∃ y12 y13 : Option V, σ' = [some (.ref a), some x, some (.ref p), y3, y4, y5, y6, y7, y8, y9, y10, some (.ref p2), y12, y13] ∧ Led C H' p2 L2 D2 E2 ls2 g2 []) (fun σ1 H8 hm => ?_) (fun N hN => ?_)
    rotate_left
    · have ha7 : SqL K H7 a (ns.map V.int) := (but_same _ _).seq (B7.same.seq ha)
      walk_at "wp"
      refine ⟨_, ha7, ?_⟩
      have hcc : cc = 0 ∨ cc = 1 := by show (if 8 < ns.length then 1 else 0) = 0 ∨ (if 8 < ns.length then 1 else 0) = 1; split <;> simp
      have hdd : (1 + if decide (8 < (((ns.map V.int).length : Nat) : Int)) = true then 1 else 0 : Int) = ((cc + 1 : Nat) : Int) := by
        rw [List.length_map]
        show _ = (((if 8 < ns.length then 1 else 0) + 1 : Nat) : Int)
        by_cases h : 8 < ns.length
        · rw [if_pos (decide_eq_true (by omega)), if_pos h]; rfl
        · rw [if_neg (by rw [decide_eq_true_eq]; omega), if_neg h]; rfl
      rw [hdd]
      generalize cc = c at hcc hdd B7 ⊢
      refine ⟨by omega, by omega, fun De hDe => ?_⟩
      rw [show ((((c + 1 : Nat) : Int)) + 1).toNat = c + 2 by omega]
      have nDS : De ∉ [L, D, E'] := by
        obtain ⟨_, _, _, hL0, _⟩ := B7.led
        exact hL0.not_new hDe
      have nDF : De ∉ [L2, D2, E2] := hF.not_new hDe
      have nD1 : H1 De = none := by
        cases e : H1 De with
        | none => rfl
        | some o => rw [(but_is (B7.same _ _ (but_at nDS e))).2] at hDe; cases hDe
      refine LcR.by (walk_range (lo := (0 : Int)) (n := c + 2)) (fun i H' => B37 K C H1 p L D E' ls.length (c + 1 - i) H' ∧ Led C H' p2 L2 D2 E2 ls2 g2 [] ∧ H' De = some (.lst ((wds (c + 1) i).map V.str))) ⟨B7.mono (same_upd hDe), hF.same (same_upd hDe), upd_same⟩ (fun _ _ _ _ => trivial) (fun i v H0 H9 hi hI yy => ?_) (fun H9 hI => ?_)
      · obtain ⟨rfl, rfl⟩ := yy
        obtain ⟨B9, hF9, hD9⟩ := hI
        have hi : i < c + 2 := hi
        walk_at "wp"
        refine ⟨sz100 (by decide), fun q1 m1 => ?_⟩
        obtain ⟨K1, w1, U1, W1⟩ := alloc (.lst []) m1
        rw [w1]
        have BA := B9.mono U1
        have hFA := hF9.same U1
        have hDA := U1 _ _ hD9
        have fin : ∀ {H' : Hp} {w : Str}, B37 K C H1 p L D E' ls.length (c + 1 - (i + 1)) H' → Led C H' p2 L2 D2 E2 ls2 g2 [] → H' De = some (.lst ((wds (c + 1) i).map V.str)) → w = (if i < c + 1 then "told" else "back" : Str) → ∃ acc, H' De = some (.lst acc) ∧ acc.length < sizeLine ∧ B37 K C H1 p L D E' ls.length (c + 1 - (i + 1)) (upd H' De (.lst (acc ++ [V.str w]))) ∧ Led C (upd H' De (.lst (acc ++ [V.str w]))) p2 L2 D2 E2 ls2 g2 [] ∧ upd H' De (.lst (acc ++ [V.str w])) De = some (.lst ((wds (c + 1) (i + 1)).map V.str)) := fun b l e hw => by
          refine ⟨_, e, ?_, b.list e nD1 nDS, l.list1 e nDF, ?_⟩
          · unfold wds
            rw [List.length_map, List.length_map, List.length_range, sizeLine_eq]
            omega
          · rw [upd_same, wds_succ, List.map_append, hw]
            rfl
        obtain ⟨ls', g', ds, hL', e3, e4, e5⟩ := BA.led
        rcases List.eq_nil_or_concat ds with rfl | ⟨ds0, d, rfl⟩
        · have hic : i = c + 1 := by have : c + 1 - i = 0 := e4.symm; omega
          refine .inr (.inr (.inr (.inl ⟨p, L, D, E', ls', g', [], q1, rfl, hL', .inl ⟨rfl, fun H' S' => ?_⟩⟩)))
          refine fin ?_ (hFA.same S') (S' _ _ hDA) (by rw [if_neg (by omega)])
          have := BA.mono S'
          rw [show c + 1 - (i + 1) = c + 1 - i by omega]
          exact this
        · rw [List.concat_eq_append] at *
          obtain ⟨o, rfl, ho⟩ := e5 d (List.mem_append.mpr (.inr (List.mem_singleton.mpr rfl)))
          have e4' : ds0.length + 1 = c + 1 - i := by rw [← e4, List.length_append]; rfl
          refine .inr (.inr (.inr (.inl ⟨p, L, D, E', ls', g', _, q1, rfl, hL', .inr (.inr ⟨ds0, 0, "want", o, rfl, by omega, by decide, ho, fun H' S' hLn => ?_⟩)⟩)))
          refine fin ⟨BA.same.trans S', _, _, ds0, hLn, by rw [setLs_len]; exact e3, by omega, fun d hd => e5 d (List.mem_append.mpr (.inl hd))⟩ (keepF hFA hL'.lists S') (but_is (S' _ _ (but_at nDS hDA))).2 (by rw [if_pos (by omega)])
      · obtain ⟨B9, hF9, hD9⟩ := hI
        refine ⟨sz100 (by decide), fun q1 m1 => ?_⟩
        obtain ⟨K1, w1, U1, W1⟩ := alloc (.lst [V.str (Str.ofString "told")]) m1
        rw [w1]
        refine ⟨_, W1, by omega, by omega, sz100 (by show 1 * ((c + 1 : Nat) : Int).toNat ≤ _; omega), fun q2 m2 => ?_⟩
        rw [Int.toNat_natCast]
        obtain ⟨K2, w2, U2, W2⟩ := alloc (.lst (List.replicate (c + 1) [V.str (Str.ofString "told")]).flatten) m2
        rw [w2]
        refine ⟨sz100 (by decide), fun q3 m3 => ?_⟩
        obtain ⟨K3, w3, U3, W3⟩ := alloc (.lst [V.str (Str.ofString "back")]) m3
        rw [w3]
        refine ⟨_, _, SqL.of (U3 _ _ W2), SqL.of W3, sz100 (by rw [rep_one, List.length_replicate]; show c + 1 + 1 ≤ _; omega), fun q4 m4 => ?_⟩
        obtain ⟨K4, w4, U4, W4⟩ := alloc (.lst ((List.replicate (c + 1) [V.str (Str.ofString "told")]).flatten ++ [V.str (Str.ofString "back")])) m4
        rw [w4]
        have U14 := U1.trans (U2.trans (U3.trans U4))
        have hw : (List.replicate (c + 1) [V.str (Str.ofString "told")]).flatten ++ [V.str (Str.ofString "back")] = (wds (c + 1) (c + 2)).map V.str := by
          rcases hcc with rfl | rfl <;> rfl
        rw [hw] at W4
        refine ⟨.list ((wds (c + 1) (c + 2)).map PyData.str), .list ((wds (c + 1) (c + 2)).map PyData.str), .lst (SqL.of (U14 _ _ hD9)) (dp_strs _), .lst (SqL.of W4) (dp_strs _), by rcases hcc with rfl | rfl <;> decide +kernel, by rcases hcc with rfl | rfl <;> decide +kernel, ?_⟩
        have he : (PyData.list ((wds (c + 1) (c + 2)).map PyData.str)).eqv (PyData.list ((wds (c + 1) (c + 2)).map PyData.str)) = true := by rcases hcc with rfl | rfl <;> decide +kernel
        rw [he]
        walk_at "wp"
        exact hN _ _ ⟨_, _, rfl, hF9.same U14⟩
    obtain ⟨y12, y13, rfl, hF8⟩ := hm
    walk_at "wp"
    refine ⟨sz100 (by decide), fun q1 m1 => ?_⟩
    obtain ⟨K1, w1, U1, W1⟩ := alloc (.tup [V.int 1, V.int 2]) m1
    rw [w1]
    refine ⟨sz100 (by decide), fun q2 m2 => ?_⟩
    obtain ⟨K2, w2, U2, W2⟩ := alloc (.lst [V.int 1, V.ref q1]) m2
    rw [w2]
    have hFa := (hF8.same U1).same U2
    have e0 : addW (.int 1) (.tuple [.int 1, .int 2]) ls2.length = "day" := rfl
    refine .inl ⟨p2, L2, D2, E2, ls2, g2, [], q2, .int 1, .ref q1, .int 1, .tuple [.int 1, .int 2], rfl, hFa, Nat.zero_le _, SqL.of W2, .int _, .tup (SqT.of (U2 _ _ W1)) (.cons (.int _) (.cons (.int _) .nil)), fun h => (by cases h), fun _ H' S' => ?_, fun ht => absurd ht (by rw [e0]; decide)⟩
    rw [e0]
    walk_at "wp"
    refine ⟨sz100 (by decide), fun q3 m3 => ?_⟩
    obtain ⟨K3, w3, U3, W3⟩ := alloc (.lst []) m3
    rw [w3]
    refine .inr (.inr (.inr (.inl ⟨p2, L2, D2, E2, ls2, g2, [], q3, rfl, (hFa.same S').same U3, .inl ⟨rfl, fun H'' S'' => ?_⟩⟩)))
    walk_at "wp"
    exact q _
end
end Bk

namespace Bk
open PySem PySem.Spec PyProof.Rows L2
theorem all_mk {l : PySem.W.OpenLaw} {w : World} {K : PySem.W.Frag} {h : Heap} {mg : Str → Option Value} {fa f1 f2 f3 f4 f5 f6 f7 f8 f9 f10 f11 f12 f13 f14 f15 f16 f17 f18 f19 f20 f21 f22 f23 f24 f25 f26 f27 f28 f29 f30 f31 f32 f33 f34 f35 f36 f37 f38 f39 f40 f41 f42 f43 f44 f45 f46 : Addr} (X : K.In h) (G : h.Ns mainGlobals mg) (hfa : mg "law" = some (.ref fa))
    {od1 an1 od2 an2 od3 an3 od4 an4 od5 an5 od6 an6 od7 an7 od8 an8 od9 an9 od10 an10 od11 an11 od12 an12 od13 an13 od14 an14 od15 an15 od16 an16 od17 an17 od18 an18 od19 an19 od20 an20 od21 an21 od22 an22 od23 an23 od24 an24 od25 an25 od26 an26 od27 an27 od28 an28 od29 an29 od30 an30 od31 an31 od32 an32 od33 an33 od34 an34 od35 an35 od36 an36 od37 an37 od38 an38 od39 an39 od40 an40 od41 an41 od42 an42 od43 an43 od44 an44 od45 an45 od46 an46 : Option Addr} {sl1 sl2 sl3 sl4 sl5 sl6 sl7 sl8 sl9 sl10 sl11 sl12 sl13 sl14 sl15 sl16 sl17 sl18 sl19 sl20 sl21 sl22 sl23 sl24 sl25 sl26 sl27 sl28 sl29 sl30 sl31 sl32 sl33 sl34 sl35 sl36 sl37 sl38 sl39 sl40 sl41 sl42 sl43 sl44 sl45 sl46 : Array (Option Value)} {oc1 kV1 dc1 pm1 cd1 ct1 oc2 kV2 dc2 pm2 cd2 ct2 oc3 kV3 dc3 pm3 cd3 ct3 oc4 kV4 dc4 pm4 cd4 ct4 oc5 kV5 dc5 pm5 cd5 ct5 oc6 kV6 dc6 pm6 cd6 ct6 oc7 kV7 dc7 pm7 cd7 ct7 oc8 kV8 dc8 pm8 cd8 ct8 oc9 kV9 dc9 pm9 cd9 ct9 oc10 kV10 dc10 pm10 cd10 ct10 oc11 kV11 dc11 pm11 cd11 ct11 oc12 kV12 dc12 pm12 cd12 ct12 oc13 kV13 dc13 pm13 cd13 ct13 oc14 kV14 dc14 pm14 cd14 ct14 oc15 kV15 dc15 pm15 cd15 ct15 oc16 kV16 dc16 pm16 cd16 ct16 oc17 kV17 dc17 pm17 cd17 ct17 oc18 kV18 dc18 pm18 cd18 ct18 oc19 kV19 dc19 pm19 cd19 ct19 oc20 kV20 dc20 pm20 cd20 ct20 oc21 kV21 dc21 pm21 cd21 ct21 oc22 kV22 dc22 pm22 cd22 ct22 oc23 kV23 dc23 pm23 cd23 ct23 oc24 kV24 dc24 pm24 cd24 ct24 oc25 kV25 dc25 pm25 cd25 ct25 oc26 kV26 dc26 pm26 cd26 ct26 oc27 kV27 dc27 pm27 cd27 ct27 oc28 kV28 dc28 pm28 cd28 ct28 oc29 kV29 dc29 pm29 cd29 ct29 oc30 kV30 dc30 pm30 cd30 ct30 oc31 kV31 dc31 pm31 cd31 ct31 oc32 kV32 dc32 pm32 cd32 ct32 oc33 kV33 dc33 pm33 cd33 ct33 oc34 kV34 dc34 pm34 cd34 ct34 oc35 kV35 dc35 pm35 cd35 ct35 oc36 kV36 dc36 pm36 cd36 ct36 oc37 kV37 dc37 pm37 cd37 ct37 oc38 kV38 dc38 pm38 cd38 ct38 oc39 kV39 dc39 pm39 cd39 ct39 oc40 kV40 dc40 pm40 cd40 ct40 oc41 kV41 dc41 pm41 cd41 ct41 oc42 kV42 dc42 pm42 cd42 ct42 oc43 kV43 dc43 pm43 cd43 ct43 oc44 kV44 dc44 pm44 cd44 ct44 oc45 kV45 dc45 pm45 cd45 ct45 oc46 kV46 dc46 pm46 cd46 ct46 : Value} {tk_GREATEST tk_MOST_DAYS tk_MOST_GOODS tk_LONGEST_LIFE tk_LIGHT tk_FINE : Tok}
    (a1 : PySem.W.nsIn K mainGlobals "is_whole" = some (some (.ref f1))) (l1 : K.lookup f1 = some ⟨oc1, od1, .func (PySem.W.fnOf "is_whole" "is_whole" (defArgs s_is_whole) (defBody s_is_whole) (defScope s_is_whole) .none kV1 dc1 pm1 an1 cd1 ct1), sl1⟩) (c1 : PySem.W.codeIn K cd1 "is_whole" = true) (k1 : PySem.W.keepIn K (.ref f1) = true)
    (a2 : PySem.W.nsIn K mainGlobals "is_number" = some (some (.ref f2))) (l2 : K.lookup f2 = some ⟨oc2, od2, .func (PySem.W.fnOf "is_number" "is_number" (defArgs s_is_number) (defBody s_is_number) (defScope s_is_number) .none kV2 dc2 pm2 an2 cd2 ct2), sl2⟩) (c2 : PySem.W.codeIn K cd2 "is_number" = true) (k2 : PySem.W.keepIn K (.ref f2) = true)
    (a3 : PySem.W.nsIn K mainGlobals "is_tuple_of" = some (some (.ref f3))) (l3 : K.lookup f3 = some ⟨oc3, od3, .func (PySem.W.fnOf "is_tuple_of" "is_tuple_of" (defArgs s_is_tuple_of) (defBody s_is_tuple_of) (defScope s_is_tuple_of) .none kV3 dc3 pm3 an3 cd3 ct3), sl3⟩) (c3 : PySem.W.codeIn K cd3 "is_tuple_of" = true) (k3 : PySem.W.keepIn K (.ref f3) = true)
    (a4 : PySem.W.nsIn K mainGlobals "is_list_of" = some (some (.ref f4))) (l4 : K.lookup f4 = some ⟨oc4, od4, .func (PySem.W.fnOf "is_list_of" "is_list_of" (defArgs s_is_list_of) (defBody s_is_list_of) (defScope s_is_list_of) .none kV4 dc4 pm4 an4 cd4 ct4), sl4⟩) (c4 : PySem.W.codeIn K cd4 "is_list_of" = true) (k4 : PySem.W.keepIn K (.ref f4) = true)
    (a5 : PySem.W.nsIn K mainGlobals "are_lights" = some (some (.ref f5))) (l5 : K.lookup f5 = some ⟨oc5, od5, .func (PySem.W.fnOf "are_lights" "are_lights" (defArgs s_are_lights) (defBody s_are_lights) (defScope s_are_lights) .none kV5 dc5 pm5 an5 cd5 ct5), sl5⟩) (c5 : PySem.W.codeIn K cd5 "are_lights" = true) (k5 : PySem.W.keepIn K (.ref f5) = true)
    (a6 : PySem.W.nsIn K mainGlobals "is_bound" = some (some (.ref f6))) (l6 : K.lookup f6 = some ⟨oc6, od6, .func (PySem.W.fnOf "is_bound" "is_bound" (defArgs s_is_bound) (defBody s_is_bound) (defScope s_is_bound) .none kV6 dc6 pm6 an6 cd6 ct6), sl6⟩) (c6 : PySem.W.codeIn K cd6 "is_bound" = true) (k6 : PySem.W.keepIn K (.ref f6) = true)
    (a7 : PySem.W.nsIn K mainGlobals "is_life" = some (some (.ref f7))) (l7 : K.lookup f7 = some ⟨oc7, od7, .func (PySem.W.fnOf "is_life" "is_life" (defArgs s_is_life) (defBody s_is_life) (defScope s_is_life) .none kV7 dc7 pm7 an7 cd7 ct7), sl7⟩) (c7 : PySem.W.codeIn K cd7 "is_life" = true) (k7 : PySem.W.keepIn K (.ref f7) = true)
    (a8 : PySem.W.nsIn K mainGlobals "is_day" = some (some (.ref f8))) (l8 : K.lookup f8 = some ⟨oc8, od8, .func (PySem.W.fnOf "is_day" "is_day" (defArgs s_is_day) (defBody s_is_day) (defScope s_is_day) .none kV8 dc8 pm8 an8 cd8 ct8), sl8⟩) (c8 : PySem.W.codeIn K cd8 "is_day" = true) (k8 : PySem.W.keepIn K (.ref f8) = true)
    (a9 : PySem.W.nsIn K mainGlobals "has_bakery_form" = some (some (.ref f9))) (l9 : K.lookup f9 = some ⟨oc9, od9, .func (PySem.W.fnOf "has_bakery_form" "has_bakery_form" (defArgs s_has_bakery_form) (defBody s_has_bakery_form) (defScope s_has_bakery_form) .none kV9 dc9 pm9 an9 cd9 ct9), sl9⟩) (c9 : PySem.W.codeIn K cd9 "has_bakery_form" = true) (k9 : PySem.W.keepIn K (.ref f9) = true)
    (a10 : PySem.W.nsIn K mainGlobals "has_good_form" = some (some (.ref f10))) (l10 : K.lookup f10 = some ⟨oc10, od10, .func (PySem.W.fnOf "has_good_form" "has_good_form" (defArgs s_has_good_form) (defBody s_has_good_form) (defScope s_has_good_form) .none kV10 dc10 pm10 an10 cd10 ct10), sl10⟩) (c10 : PySem.W.codeIn K cd10 "has_good_form" = true) (k10 : PySem.W.keepIn K (.ref f10) = true)
    (a11 : PySem.W.nsIn K mainGlobals "look_at_goods" = some (some (.ref f11))) (l11 : K.lookup f11 = some ⟨oc11, od11, .func (PySem.W.fnOf "look_at_goods" "look_at_goods" (defArgs s_look_at_goods) (defBody s_look_at_goods) (defScope s_look_at_goods) .none kV11 dc11 pm11 an11 cd11 ct11), sl11⟩) (c11 : PySem.W.codeIn K cd11 "look_at_goods" = true) (k11 : PySem.W.keepIn K (.ref f11) = true)
    (a12 : PySem.W.nsIn K mainGlobals "look_at_bakery" = some (some (.ref f12))) (l12 : K.lookup f12 = some ⟨oc12, od12, .func (PySem.W.fnOf "look_at_bakery" "look_at_bakery" (defArgs s_look_at_bakery) (defBody s_look_at_bakery) (defScope s_look_at_bakery) .none kV12 dc12 pm12 an12 cd12 ct12), sl12⟩) (c12 : PySem.W.codeIn K cd12 "look_at_bakery" = true) (k12 : PySem.W.keepIn K (.ref f12) = true)
    (a13 : PySem.W.nsIn K mainGlobals "is_plain" = some (some (.ref f13))) (l13 : K.lookup f13 = some ⟨oc13, od13, .func (PySem.W.fnOf "is_plain" "is_plain" (defArgs s_is_plain) (defBody s_is_plain) (defScope s_is_plain) .none kV13 dc13 pm13 an13 cd13 ct13), sl13⟩) (c13 : PySem.W.codeIn K cd13 "is_plain" = true) (k13 : PySem.W.keepIn K (.ref f13) = true)
    (a14 : PySem.W.nsIn K mainGlobals "look_at_plain" = some (some (.ref f14))) (l14 : K.lookup f14 = some ⟨oc14, od14, .func (PySem.W.fnOf "look_at_plain" "look_at_plain" (defArgs s_look_at_plain) (defBody s_look_at_plain) (defScope s_look_at_plain) .none kV14 dc14 pm14 an14 cd14 ct14), sl14⟩) (c14 : PySem.W.codeIn K cd14 "look_at_plain" = true) (k14 : PySem.W.keepIn K (.ref f14) = true)
    (a15 : PySem.W.nsIn K mainGlobals "is_place" = some (some (.ref f15))) (l15 : K.lookup f15 = some ⟨oc15, od15, .func (PySem.W.fnOf "is_place" "is_place" (defArgs s_is_place) (defBody s_is_place) (defScope s_is_place) .none kV15 dc15 pm15 an15 cd15 ct15), sl15⟩) (c15 : PySem.W.codeIn K cd15 "is_place" = true) (k15 : PySem.W.keepIn K (.ref f15) = true)
    (a16 : PySem.W.nsIn K mainGlobals "keeps_of" = some (some (.ref f16))) (l16 : K.lookup f16 = some ⟨oc16, od16, .func (PySem.W.fnOf "keeps_of" "keeps_of" (defArgs s_keeps_of) (defBody s_keeps_of) (defScope s_keeps_of) .none kV16 dc16 pm16 an16 cd16 ct16), sl16⟩) (c16 : PySem.W.codeIn K cd16 "keeps_of" = true) (k16 : PySem.W.keepIn K (.ref f16) = true)
    (a17 : PySem.W.nsIn K mainGlobals "fines_of" = some (some (.ref f17))) (l17 : K.lookup f17 = some ⟨oc17, od17, .func (PySem.W.fnOf "fines_of" "fines_of" (defArgs s_fines_of) (defBody s_fines_of) (defScope s_fines_of) .none kV17 dc17 pm17 an17 cd17 ct17), sl17⟩) (c17 : PySem.W.codeIn K cd17 "fines_of" = true) (k17 : PySem.W.keepIn K (.ref f17) = true)
    (a18 : PySem.W.nsIn K mainGlobals "loaf_price" = some (some (.ref f18))) (l18 : K.lookup f18 = some ⟨oc18, od18, .func (PySem.W.fnOf "loaf_price" "loaf_price" (defArgs s_loaf_price) (defBody s_loaf_price) (defScope s_loaf_price) .none kV18 dc18 pm18 an18 cd18 ct18), sl18⟩) (c18 : PySem.W.codeIn K cd18 "loaf_price" = true) (k18 : PySem.W.keepIn K (.ref f18) = true)
    (a19 : PySem.W.nsIn K mainGlobals "wanted_price" = some (some (.ref f19))) (l19 : K.lookup f19 = some ⟨oc19, od19, .func (PySem.W.fnOf "wanted_price" "wanted_price" (defArgs s_wanted_price) (defBody s_wanted_price) (defScope s_wanted_price) .none kV19 dc19 pm19 an19 cd19 ct19), sl19⟩) (c19 : PySem.W.codeIn K cd19 "wanted_price" = true) (k19 : PySem.W.keepIn K (.ref f19) = true)
    (a20 : PySem.W.nsIn K mainGlobals "wanted_table" = some (some (.ref f20))) (l20 : K.lookup f20 = some ⟨oc20, od20, .func (PySem.W.fnOf "wanted_table" "wanted_table" (defArgs s_wanted_table) (defBody s_wanted_table) (defScope s_wanted_table) .none kV20 dc20 pm20 an20 cd20 ct20), sl20⟩) (c20 : PySem.W.codeIn K cd20 "wanted_table" = true) (k20 : PySem.W.keepIn K (.ref f20) = true)
    (a21 : PySem.W.nsIn K mainGlobals "least_baked_on" = some (some (.ref f21))) (l21 : K.lookup f21 = some ⟨oc21, od21, .func (PySem.W.fnOf "least_baked_on" "least_baked_on" (defArgs s_least_baked_on) (defBody s_least_baked_on) (defScope s_least_baked_on) .none kV21 dc21 pm21 an21 cd21 ct21), sl21⟩) (c21 : PySem.W.codeIn K cd21 "least_baked_on" = true) (k21 : PySem.W.keepIn K (.ref f21) = true)
    (a22 : PySem.W.nsIn K mainGlobals "least_of" = some (some (.ref f22))) (l22 : K.lookup f22 = some ⟨oc22, od22, .func (PySem.W.fnOf "least_of" "least_of" (defArgs s_least_of) (defBody s_least_of) (defScope s_least_of) .none kV22 dc22 pm22 an22 cd22 ct22), sl22⟩) (c22 : PySem.W.codeIn K cd22 "least_of" = true) (k22 : PySem.W.keepIn K (.ref f22) = true)
    (a23 : PySem.W.nsIn K mainGlobals "is_unwanted" = some (some (.ref f23))) (l23 : K.lookup f23 = some ⟨oc23, od23, .func (PySem.W.fnOf "is_unwanted" "is_unwanted" (defArgs s_is_unwanted) (defBody s_is_unwanted) (defScope s_is_unwanted) .none kV23 dc23 pm23 an23 cd23 ct23), sl23⟩) (c23 : PySem.W.codeIn K cd23 "is_unwanted" = true) (k23 : PySem.W.keepIn K (.ref f23) = true)
    (a24 : PySem.W.nsIn K mainGlobals "least_row" = some (some (.ref f24))) (l24 : K.lookup f24 = some ⟨oc24, od24, .func (PySem.W.fnOf "least_row" "least_row" (defArgs s_least_row) (defBody s_least_row) (defScope s_least_row) .none kV24 dc24 pm24 an24 cd24 ct24), sl24⟩) (c24 : PySem.W.codeIn K cd24 "least_row" = true) (k24 : PySem.W.keepIn K (.ref f24) = true)
    (a25 : PySem.W.nsIn K mainGlobals "is_part" = some (some (.ref f25))) (l25 : K.lookup f25 = some ⟨oc25, od25, .func (PySem.W.fnOf "is_part" "is_part" (defArgs s_is_part) (defBody s_is_part) (defScope s_is_part) .none kV25 dc25 pm25 an25 cd25 ct25), sl25⟩) (c25 : PySem.W.codeIn K cd25 "is_part" = true) (k25 : PySem.W.keepIn K (.ref f25) = true)
    (a26 : PySem.W.nsIn K mainGlobals "is_worth" = some (some (.ref f26))) (l26 : K.lookup f26 = some ⟨oc26, od26, .func (PySem.W.fnOf "is_worth" "is_worth" (defArgs s_is_worth) (defBody s_is_worth) (defScope s_is_worth) .none kV26 dc26 pm26 an26 cd26 ct26), sl26⟩) (c26 : PySem.W.codeIn K cd26 "is_worth" = true) (k26 : PySem.W.keepIn K (.ref f26) = true)
    (a27 : PySem.W.nsIn K mainGlobals "with_part" = some (some (.ref f27))) (l27 : K.lookup f27 = some ⟨oc27, od27, .func (PySem.W.fnOf "with_part" "with_part" (defArgs s_with_part) (defBody s_with_part) (defScope s_with_part) .none kV27 dc27 pm27 an27 cd27 ct27), sl27⟩) (c27 : PySem.W.codeIn K cd27 "with_part" = true) (k27 : PySem.W.keepIn K (.ref f27) = true)
    (a28 : PySem.W.nsIn K mainGlobals "others_now" = some (some (.ref f28))) (l28 : K.lookup f28 = some ⟨oc28, od28, .func (PySem.W.fnOf "others_now" "others_now" (defArgs s_others_now) (defBody s_others_now) (defScope s_others_now) .none kV28 dc28 pm28 an28 cd28 ct28), sl28⟩) (c28 : PySem.W.codeIn K cd28 "others_now" = true) (k28 : PySem.W.keepIn K (.ref f28) = true)
    (a29 : PySem.W.nsIn K mainGlobals "_law_cell_at" = some (some (.ref f29))) (l29 : K.lookup f29 = some ⟨oc29, od29, .func (PySem.W.fnOf "_law_cell_at" "_law_cell_at" (defArgs s_cell_at) (defBody s_cell_at) (defScope s_cell_at) .none kV29 dc29 pm29 an29 cd29 ct29), sl29⟩) (c29 : PySem.W.codeIn K cd29 "_law_cell_at" = true) (k29 : PySem.W.keepIn K (.ref f29) = true)
    (a30 : PySem.W.nsIn K mainGlobals "_law_numbers" = some (some (.ref f30))) (l30 : K.lookup f30 = some ⟨oc30, od30, .func (PySem.W.fnOf "_law_numbers" "_law_numbers" (defArgs s_numbers) (defBody s_numbers) (defScope s_numbers) .none kV30 dc30 pm30 an30 cd30 ct30), sl30⟩) (c30 : PySem.W.codeIn K cd30 "_law_numbers" = true) (k30 : PySem.W.keepIn K (.ref f30) = true)
    (a31 : PySem.W.nsIn K mainGlobals "_law_whole" = some (some (.ref f31))) (l31 : K.lookup f31 = some ⟨oc31, od31, .func (PySem.W.fnOf "_law_whole" "_law_whole" (defArgs s_whole) (defBody s_whole) (defScope s_whole) .none kV31 dc31 pm31 an31 cd31 ct31), sl31⟩) (c31 : PySem.W.codeIn K cd31 "_law_whole" = true) (k31 : PySem.W.keepIn K (.ref f31) = true)
    (a32 : PySem.W.nsIn K mainGlobals "_law_day" = some (some (.ref f32))) (l32 : K.lookup f32 = some ⟨oc32, od32, .func (PySem.W.fnOf "_law_day" "_law_day" (defArgs s_day) (defBody s_day) (defScope s_day) .none kV32 dc32 pm32 an32 cd32 ct32), sl32⟩) (c32 : PySem.W.codeIn K cd32 "_law_day" = true) (k32 : PySem.W.keepIn K (.ref f32) = true)
    (a33 : PySem.W.nsIn K mainGlobals "_law_bakery" = some (some (.ref f33))) (l33 : K.lookup f33 = some ⟨oc33, od33, .func (PySem.W.fnOf "_law_bakery" "_law_bakery" (defArgs s_bakery) (defBody s_bakery) (defScope s_bakery) .none kV33 dc33 pm33 an33 cd33 ct33), sl33⟩) (c33 : PySem.W.codeIn K cd33 "_law_bakery" = true) (k33 : PySem.W.keepIn K (.ref f33) = true)
    (a34 : PySem.W.nsIn K mainGlobals "_law_word" = some (some (.ref f34))) (l34 : K.lookup f34 = some ⟨oc34, od34, .func (PySem.W.fnOf "_law_word" "_law_word" (defArgs s_word) (defBody s_word) (defScope s_word) .none kV34 dc34 pm34 an34 cd34 ct34), sl34⟩) (c34 : PySem.W.codeIn K cd34 "_law_word" = true) (k34 : PySem.W.keepIn K (.ref f34) = true)
    (a35 : PySem.W.nsIn K mainGlobals "_law_asked" = some (some (.ref f35))) (l35 : K.lookup f35 = some ⟨oc35, od35, .func (PySem.W.fnOf "_law_asked" "_law_asked" (defArgs s_asked) (defBody s_asked) (defScope s_asked) .none kV35 dc35 pm35 an35 cd35 ct35), sl35⟩) (c35 : PySem.W.codeIn K cd35 "_law_asked" = true) (k35 : PySem.W.keepIn K (.ref f35) = true)
    (a36 : PySem.W.nsIn K mainGlobals "_law_is_number" = some (some (.ref f36))) (l36 : K.lookup f36 = some ⟨oc36, od36, .func (PySem.W.fnOf "_law_is_number" "_law_is_number" (defArgs s_is_number_l) (defBody s_is_number_l) (defScope s_is_number_l) .none kV36 dc36 pm36 an36 cd36 ct36), sl36⟩) (c36 : PySem.W.codeIn K cd36 "_law_is_number" = true) (k36 : PySem.W.keepIn K (.ref f36) = true)
    (a37 : PySem.W.nsIn K mainGlobals "_law_thing" = some (some (.ref f37))) (l37 : K.lookup f37 = some ⟨oc37, od37, .func (PySem.W.fnOf "_law_thing" "_law_thing" (defArgs s_thing) (defBody s_thing) (defScope s_thing) .none kV37 dc37 pm37 an37 cd37 ct37), sl37⟩) (c37 : PySem.W.codeIn K cd37 "_law_thing" = true) (k37 : PySem.W.keepIn K (.ref f37) = true)
    (a38 : PySem.W.nsIn K mainGlobals "_law_is_day" = some (some (.ref f38))) (l38 : K.lookup f38 = some ⟨oc38, od38, .func (PySem.W.fnOf "_law_is_day" "_law_is_day" (defArgs s_is_day_l) (defBody s_is_day_l) (defScope s_is_day_l) .none kV38 dc38 pm38 an38 cd38 ct38), sl38⟩) (c38 : PySem.W.codeIn K cd38 "_law_is_day" = true) (k38 : PySem.W.keepIn K (.ref f38) = true)
    (a39 : PySem.W.nsIn K mainGlobals "_law_row" = some (some (.ref f39))) (l39 : K.lookup f39 = some ⟨oc39, od39, .func (PySem.W.fnOf "_law_row" "_law_row" (defArgs s_row) (defBody s_row) (defScope s_row) .none kV39 dc39 pm39 an39 cd39 ct39), sl39⟩) (c39 : PySem.W.codeIn K cd39 "_law_row" = true) (k39 : PySem.W.keepIn K (.ref f39) = true)
    (a40 : PySem.W.nsIn K mainGlobals "_law_add_due" = some (some (.ref f40))) (l40 : K.lookup f40 = some ⟨oc40, od40, .func (PySem.W.fnOf "_law_add_due" "_law_add_due" (defArgs s_add_due) (defBody s_add_due) (defScope s_add_due) .none kV40 dc40 pm40 an40 cd40 ct40), sl40⟩) (c40 : PySem.W.codeIn K cd40 "_law_add_due" = true) (k40 : PySem.W.keepIn K (.ref f40) = true)
    (a41 : PySem.W.nsIn K mainGlobals "_law_change_due" = some (some (.ref f41))) (l41 : K.lookup f41 = some ⟨oc41, od41, .func (PySem.W.fnOf "_law_change_due" "_law_change_due" (defArgs s_change_due) (defBody s_change_due) (defScope s_change_due) .none kV41 dc41 pm41 an41 cd41 ct41), sl41⟩) (c41 : PySem.W.codeIn K cd41 "_law_change_due" = true) (k41 : PySem.W.keepIn K (.ref f41) = true)
    (a42 : PySem.W.nsIn K mainGlobals "_law_part" = some (some (.ref f42))) (l42 : K.lookup f42 = some ⟨oc42, od42, .func (PySem.W.fnOf "_law_part" "_law_part" (defArgs s_part) (defBody s_part) (defScope s_part) .none kV42 dc42 pm42 an42 cd42 ct42), sl42⟩) (c42 : PySem.W.codeIn K cd42 "_law_part" = true) (k42 : PySem.W.keepIn K (.ref f42) = true)
    (a43 : PySem.W.nsIn K mainGlobals "_law_right" = some (some (.ref f43))) (l43 : K.lookup f43 = some ⟨oc43, od43, .func (PySem.W.fnOf "_law_right" "_law_right" (defArgs s_right) (defBody s_right) (defScope s_right) .none kV43 dc43 pm43 an43 cd43 ct43), sl43⟩) (c43 : PySem.W.codeIn K cd43 "_law_right" = true) (k43 : PySem.W.keepIn K (.ref f43) = true)
    (a44 : PySem.W.nsIn K mainGlobals "_law_full" = some (some (.ref f44))) (l44 : K.lookup f44 = some ⟨oc44, od44, .func (PySem.W.fnOf "_law_full" "_law_full" (defArgs s_full) (defBody s_full) (defScope s_full) .none kV44 dc44 pm44 an44 cd44 ct44), sl44⟩) (c44 : PySem.W.codeIn K cd44 "_law_full" = true) (k44 : PySem.W.keepIn K (.ref f44) = true)
    (a45 : PySem.W.nsIn K mainGlobals "_law_spoilt_right" = some (some (.ref f45))) (l45 : K.lookup f45 = some ⟨oc45, od45, .func (PySem.W.fnOf "_law_spoilt_right" "_law_spoilt_right" (defArgs s_spoilt_right) (defBody s_spoilt_right) (defScope s_spoilt_right) .none kV45 dc45 pm45 an45 cd45 ct45), sl45⟩) (c45 : PySem.W.codeIn K cd45 "_law_spoilt_right" = true) (k45 : PySem.W.keepIn K (.ref f45) = true)
    (a46 : PySem.W.nsIn K mainGlobals "law" = some (some (.ref f46))) (l46 : K.lookup f46 = some ⟨oc46, od46, .func (PySem.W.fnOf "law" "law" (defArgs s_law) (defBody s_law) (defScope s_law) .none kV46 dc46 pm46 an46 cd46 ct46), sl46⟩) (c46 : PySem.W.codeIn K cd46 "law" = true) (k46 : PySem.W.keepIn K (.ref f46) = true)
    {C_NoBakery CB_NoBakery fI_NoBakery N_NoBakery cda_NoBakery cc_NoBakery : Addr} {nm_NoBakery q_NoBakery file_NoBakery : Str} {bs_NoBakery sub_NoBakery : List Value} {sn_NoBakery : List Str} {ab_NoBakery : Bool} {col_NoBakery : Option Bool} {dd_NoBakery odI_NoBakery anI_NoBakery cdd_NoBakery cld_NoBakery : Option Addr} {m0_NoBakery m1_NoBakery m2_NoBakery m3_NoBakery m5_NoBakery : Option Value} {ocI_NoBakery kVI_NoBakery dcI_NoBakery pmI_NoBakery ctI_NoBakery ccl_NoBakery cl_NoBakery : Value} {oslI_NoBakery ccs_NoBakery csl_NoBakery : Array (Option Value)} {vsI_NoBakery : Array Value} {tf_NoBakery : Tok}
    (aC_NoBakery : PySem.W.nsIn K mainGlobals "NoBakery" = some (some (.ref C_NoBakery)))
    (xL_NoBakery : K.lookup C_NoBakery = some (excClassObj nm_NoBakery q_NoBakery C_NoBakery N_NoBakery bs_NoBakery [.ref CB_NoBakery, .type "ValueError", .type "Exception", .type "BaseException", .type "object"] true sn_NoBakery sub_NoBakery ab_NoBakery col_NoBakery dd_NoBakery m0_NoBakery m1_NoBakery m2_NoBakery m3_NoBakery m5_NoBakery "ValueError.__new__"))
    (sa_NoBakery : PySem.W.findIn K (.ref C_NoBakery) "__setattr__" = some (some (.builtin "object.__setattr__")))
    (eC_NoBakery : PySem.W.subIn K (.ref C_NoBakery) (.type "BaseException") = some true)
    (tC_NoBakery : PySem.W.typeIn K (.ref C_NoBakery) = some (.type "type"))
    (kC_NoBakery : PySem.W.keepIn K (.ref C_NoBakery) = true)
    (iC_NoBakery : PySem.W.isClsIn K C_NoBakery = true)
    (sC_NoBakery : PySem.W.subIn K (.ref C_NoBakery) (.ref C_NoBakery) = some true)
    (a1_NoBakery : PySem.W.findIn K (.ref C_NoBakery) "__init__" = some (some (.ref fI_NoBakery)))
    (t1_NoBakery : PySem.W.typeIn K (.ref fI_NoBakery) = some (.type "function"))
    (l1_NoBakery : K.lookup fI_NoBakery = some ⟨ocI_NoBakery, odI_NoBakery, .func (PySem.W.ksFn "__init__" "NoBakery.__init__" (defArgs (clsM s_cNoBakery 0)) (defBody (clsM s_cNoBakery 0)) (defScope (clsM s_cNoBakery 0)) .none kVI_NoBakery dcI_NoBakery pmI_NoBakery anI_NoBakery (.ref cda_NoBakery) ctI_NoBakery cc_NoBakery), oslI_NoBakery⟩)
    (c1_NoBakery : PySem.W.codeIn K (.ref cda_NoBakery) "NoBakery.__init__" = true)
    (n1_NoBakery : PySem.W.findIn K (.ref C_NoBakery) "good" = some none)
    (n2_NoBakery : PySem.W.findIn K (.ref C_NoBakery) "day" = some none)
    (uc_NoBakery : K.lookup cda_NoBakery = some ⟨ccl_NoBakery, cdd_NoBakery, .fields vsI_NoBakery, ccs_NoBakery⟩)
    (uf_NoBakery : vsI_NoBakery[2]? = some (.str file_NoBakery tf_NoBakery))
    (ue_NoBakery : ((l.prog.main.file : Str) == file_NoBakery) = true)
    (ul_NoBakery : K.lookup cc_NoBakery = some ⟨cl_NoBakery, cld_NoBakery, .cell (some (.ref C_NoBakery)), csl_NoBakery⟩)
    (us_NoBakery : PySem.W.ks_superIn K C_NoBakery C_NoBakery "__init__" = some (some (.builtin "ValueError.__init__")))
    (um_NoBakery : PySem.W.mroIn K C_NoBakery (.ref C_NoBakery) = some true)
    (ub_NoBakery : PySem.W.subIn K (.ref C_NoBakery) (.type "ValueError") = some true)
    (up_NoBakery : PySem.W.nsIn K cStatics "thirdparty.any" = some none)
    (ut_NoBakery : (l.prog.main.scope.names.lookup ("super" : Str)).isSome = false)
    {C_Ledger A_PARTS : Addr} {nP : Nat} {slP : Array (Option Value)} {u1 u2 u3 u4 : Tok}
    (aC_Ledger : PySem.W.nsIn K mainGlobals "Ledger" = some (some (.ref C_Ledger)))
    (pg_Ledger : PySem.W.plainGet K C_Ledger Str.empty = true)
    (hd_Ledger : PySem.W.hasDictIn K C_Ledger = true)
    (po_Ledger : PySem.W.plainOver K C_Ledger = true)
    (sa_Ledger : PySem.W.findIn K (.ref C_Ledger) "__setattr__" = some (some (.builtin "object.__setattr__")))
    (mk_Ledger : PySem.W.makesIn K C_Ledger = true)
    (kC_Ledger : PySem.W.keepIn K (.ref C_Ledger) = true)
    (n1_Ledger : PySem.W.findIn K (.ref C_Ledger) "lights" = some none)
    (n2_Ledger : PySem.W.findIn K (.ref C_Ledger) "days" = some none)
    (n3_Ledger : PySem.W.findIn K (.ref C_Ledger) "life" = some none)
    (n4_Ledger : PySem.W.findIn K (.ref C_Ledger) "deeds" = some none)
    (aP_PARTS : PySem.W.nsIn K mainGlobals "PARTS" = some (some (.ref A_PARTS)))
    (lP_PARTS : K.lookup A_PARTS = some ⟨.type "tuple", none, .seq #[.str "want" u1, .str "loaf" u2, .str "keep" u3, .str "fine" u4] nP, slP⟩)
    {fm_init : Addr} {odm_init anm_init : Option Addr} {slm_init : Array (Option Value)} {ocm_init kVm_init dcm_init pmm_init cdm_init ctm_init : Value}
    (am_init : PySem.W.findIn K (.ref C_Ledger) "__init__" = some (some (.ref fm_init)))
    (im_init : PySem.W.isFn K (.ref fm_init) = true)
    (lm_init : K.lookup fm_init = some ⟨ocm_init, odm_init, .func (PySem.W.fnOf "__init__" "Ledger.__init__" (defArgs s_Ledger_init) (defBody s_Ledger_init) (defScope s_Ledger_init) .none kVm_init dcm_init pmm_init anm_init cdm_init ctm_init), slm_init⟩)
    (cm_init : PySem.W.codeIn K cdm_init "Ledger.__init__" = true)
    (km_init : PySem.W.keepIn K (.ref fm_init) = true)
    {fm_bakery : Addr} {odm_bakery anm_bakery : Option Addr} {slm_bakery : Array (Option Value)} {ocm_bakery kVm_bakery dcm_bakery pmm_bakery cdm_bakery ctm_bakery : Value}
    (am_bakery : PySem.W.findIn K (.ref C_Ledger) "bakery" = some (some (.ref fm_bakery)))
    (im_bakery : PySem.W.isFn K (.ref fm_bakery) = true)
    (lm_bakery : K.lookup fm_bakery = some ⟨ocm_bakery, odm_bakery, .func (PySem.W.fnOf "bakery" "Ledger.bakery" (defArgs s_Ledger_bakery) (defBody s_Ledger_bakery) (defScope s_Ledger_bakery) .none kVm_bakery dcm_bakery pmm_bakery anm_bakery cdm_bakery ctm_bakery), slm_bakery⟩)
    (cm_bakery : PySem.W.codeIn K cdm_bakery "Ledger.bakery" = true)
    (km_bakery : PySem.W.keepIn K (.ref fm_bakery) = true)
    {fm_costs : Addr} {odm_costs anm_costs : Option Addr} {slm_costs : Array (Option Value)} {ocm_costs kVm_costs dcm_costs pmm_costs cdm_costs ctm_costs : Value}
    (am_costs : PySem.W.findIn K (.ref C_Ledger) "costs" = some (some (.ref fm_costs)))
    (im_costs : PySem.W.isFn K (.ref fm_costs) = true)
    (lm_costs : K.lookup fm_costs = some ⟨ocm_costs, odm_costs, .func (PySem.W.fnOf "costs" "Ledger.costs" (defArgs s_Ledger_costs) (defBody s_Ledger_costs) (defScope s_Ledger_costs) .none kVm_costs dcm_costs pmm_costs anm_costs cdm_costs ctm_costs), slm_costs⟩)
    (cm_costs : PySem.W.codeIn K cdm_costs "Ledger.costs" = true)
    (km_costs : PySem.W.keepIn K (.ref fm_costs) = true)
    {fm_worth_at : Addr} {odm_worth_at anm_worth_at : Option Addr} {slm_worth_at : Array (Option Value)} {ocm_worth_at kVm_worth_at dcm_worth_at pmm_worth_at cdm_worth_at ctm_worth_at : Value}
    (am_worth_at : PySem.W.findIn K (.ref C_Ledger) "worth_at" = some (some (.ref fm_worth_at)))
    (im_worth_at : PySem.W.isFn K (.ref fm_worth_at) = true)
    (lm_worth_at : K.lookup fm_worth_at = some ⟨ocm_worth_at, odm_worth_at, .func (PySem.W.fnOf "worth_at" "Ledger.worth_at" (defArgs s_Ledger_worth_at) (defBody s_Ledger_worth_at) (defScope s_Ledger_worth_at) .none kVm_worth_at dcm_worth_at pmm_worth_at anm_worth_at cdm_worth_at ctm_worth_at), slm_worth_at⟩)
    (cm_worth_at : PySem.W.codeIn K cdm_worth_at "Ledger.worth_at" = true)
    (km_worth_at : PySem.W.keepIn K (.ref fm_worth_at) = true)
    {fm_set_part : Addr} {odm_set_part anm_set_part : Option Addr} {slm_set_part : Array (Option Value)} {ocm_set_part kVm_set_part dcm_set_part pmm_set_part cdm_set_part ctm_set_part : Value}
    (am_set_part : PySem.W.findIn K (.ref C_Ledger) "set_part" = some (some (.ref fm_set_part)))
    (im_set_part : PySem.W.isFn K (.ref fm_set_part) = true)
    (lm_set_part : K.lookup fm_set_part = some ⟨ocm_set_part, odm_set_part, .func (PySem.W.fnOf "set_part" "Ledger.set_part" (defArgs s_Ledger_set_part) (defBody s_Ledger_set_part) (defScope s_Ledger_set_part) .none kVm_set_part dcm_set_part pmm_set_part anm_set_part cdm_set_part ctm_set_part), slm_set_part⟩)
    (cm_set_part : PySem.W.codeIn K cdm_set_part "Ledger.set_part" = true)
    (km_set_part : PySem.W.keepIn K (.ref fm_set_part) = true)
    {fm_change : Addr} {odm_change anm_change : Option Addr} {slm_change : Array (Option Value)} {ocm_change kVm_change dcm_change pmm_change cdm_change ctm_change : Value}
    {Td_change : Addr} {sld_change : Array (Option Value)} {cld_change : Value} {ddm_change : Option Addr} {nd_change : Nat}
    (am_change : PySem.W.findIn K (.ref C_Ledger) "change" = some (some (.ref fm_change)))
    (im_change : PySem.W.isFn K (.ref fm_change) = true)
    (lm_change : K.lookup fm_change = some ⟨ocm_change, odm_change, .func (PySem.W.fnOf "change" "Ledger.change" (defArgs s_Ledger_change) (defBody s_Ledger_change) (defScope s_Ledger_change) (.ref Td_change) kVm_change dcm_change pmm_change anm_change cdm_change ctm_change), slm_change⟩)
    (cm_change : PySem.W.codeIn K cdm_change "Ledger.change" = true)
    (km_change : PySem.W.keepIn K (.ref fm_change) = true)
    (ld_change : K.lookup Td_change = some ⟨cld_change, ddm_change, .seq #[.none] nd_change, sld_change⟩)
    {fm_add : Addr} {odm_add anm_add : Option Addr} {slm_add : Array (Option Value)} {ocm_add kVm_add dcm_add pmm_add cdm_add ctm_add : Value}
    (am_add : PySem.W.findIn K (.ref C_Ledger) "add" = some (some (.ref fm_add)))
    (im_add : PySem.W.isFn K (.ref fm_add) = true)
    (lm_add : K.lookup fm_add = some ⟨ocm_add, odm_add, .func (PySem.W.fnOf "add" "Ledger.add" (defArgs s_Ledger_add) (defBody s_Ledger_add) (defScope s_Ledger_add) .none kVm_add dcm_add pmm_add anm_add cdm_add ctm_add), slm_add⟩)
    (cm_add : PySem.W.codeIn K cdm_add "Ledger.add" = true)
    (km_add : PySem.W.keepIn K (.ref fm_add) = true)
    {fm_back : Addr} {odm_back anm_back : Option Addr} {slm_back : Array (Option Value)} {ocm_back kVm_back dcm_back pmm_back cdm_back ctm_back : Value}
    (am_back : PySem.W.findIn K (.ref C_Ledger) "back" = some (some (.ref fm_back)))
    (im_back : PySem.W.isFn K (.ref fm_back) = true)
    (lm_back : K.lookup fm_back = some ⟨ocm_back, odm_back, .func (PySem.W.fnOf "back" "Ledger.back" (defArgs s_Ledger_back) (defBody s_Ledger_back) (defScope s_Ledger_back) .none kVm_back dcm_back pmm_back anm_back cdm_back ctm_back), slm_back⟩)
    (cm_back : PySem.W.codeIn K cdm_back "Ledger.back" = true)
    (km_back : PySem.W.keepIn K (.ref fm_back) = true)
    {C_NotPlain : Addr}
    (aC_NotPlain : PySem.W.nsIn K mainGlobals "NotPlain" = some (some (.ref C_NotPlain)))
    {C_NoNumber : Addr}
    (aC_NoNumber : PySem.W.nsIn K mainGlobals "NoNumber" = some (some (.ref C_NoNumber)))
    {C_NoDay : Addr}
    (aC_NoDay : PySem.W.nsIn K mainGlobals "NoDay" = some (some (.ref C_NoDay)))
    {C_NoPart : Addr}
    (aC_NoPart : PySem.W.nsIn K mainGlobals "NoPart" = some (some (.ref C_NoPart)))
    {C_TooMany : Addr}
    (aC_TooMany : PySem.W.nsIn K mainGlobals "TooMany" = some (some (.ref C_TooMany)))
    {C_NoBack : Addr}
    (aC_NoBack : PySem.W.nsIn K mainGlobals "NoBack" = some (some (.ref C_NoBack)))
    {C_BakeError : Addr}
    (aC_BakeError : PySem.W.nsIn K mainGlobals "BakeError" = some (some (.ref C_BakeError)))
    {C_NoDays : Addr}
    (aC_NoDays : PySem.W.nsIn K mainGlobals "NoDays" = some (some (.ref C_NoDays)))
    {C_NoDoughs : Addr}
    (aC_NoDoughs : PySem.W.nsIn K mainGlobals "NoDoughs" = some (some (.ref C_NoDoughs)))
    {C_NoGood : Addr}
    (aC_NoGood : PySem.W.nsIn K mainGlobals "NoGood" = some (some (.ref C_NoGood)))
    {C_NoName : Addr}
    (aC_NoName : PySem.W.nsIn K mainGlobals "NoName" = some (some (.ref C_NoName)))
    {C_NoRow : Addr}
    (aC_NoRow : PySem.W.nsIn K mainGlobals "NoRow" = some (some (.ref C_NoRow)))
    {C_NoText : Addr}
    (aC_NoText : PySem.W.nsIn K mainGlobals "NoText" = some (some (.ref C_NoText)))
    {C_NotSteady : Addr}
    (aC_NotSteady : PySem.W.nsIn K mainGlobals "NotSteady" = some (some (.ref C_NotSteady)))
    {C_TooMuch : Addr}
    (aC_TooMuch : PySem.W.nsIn K mainGlobals "TooMuch" = some (some (.ref C_TooMuch)))
    (q1_NotPlain : PySem.W.excIn K C_NotPlain [.type "ValueError", .type "Exception", .type "BaseException", .type "object"] "ValueError.__new__" = true)
    (kC_NotPlain : PySem.W.keepIn K (.ref C_NotPlain) = true)
    (eC_NotPlain : PySem.W.subIn K (.ref C_NotPlain) (.type "BaseException") = some true)
    (tC_NotPlain : PySem.W.typeIn K (.ref C_NotPlain) = some (.type "type"))
    (q1_NoNumber : PySem.W.excIn K C_NoNumber [.type "ValueError", .type "Exception", .type "BaseException", .type "object"] "ValueError.__new__" = true)
    (kC_NoNumber : PySem.W.keepIn K (.ref C_NoNumber) = true)
    (eC_NoNumber : PySem.W.subIn K (.ref C_NoNumber) (.type "BaseException") = some true)
    (tC_NoNumber : PySem.W.typeIn K (.ref C_NoNumber) = some (.type "type"))
    (q1_NoDay : PySem.W.excIn K C_NoDay [.type "ValueError", .type "Exception", .type "BaseException", .type "object"] "ValueError.__new__" = true)
    (kC_NoDay : PySem.W.keepIn K (.ref C_NoDay) = true)
    (eC_NoDay : PySem.W.subIn K (.ref C_NoDay) (.type "BaseException") = some true)
    (tC_NoDay : PySem.W.typeIn K (.ref C_NoDay) = some (.type "type"))
    (q1_NoPart : PySem.W.excIn K C_NoPart [.type "ValueError", .type "Exception", .type "BaseException", .type "object"] "ValueError.__new__" = true)
    (kC_NoPart : PySem.W.keepIn K (.ref C_NoPart) = true)
    (eC_NoPart : PySem.W.subIn K (.ref C_NoPart) (.type "BaseException") = some true)
    (tC_NoPart : PySem.W.typeIn K (.ref C_NoPart) = some (.type "type"))
    (q1_TooMany : PySem.W.excIn K C_TooMany [.type "ValueError", .type "Exception", .type "BaseException", .type "object"] "ValueError.__new__" = true)
    (kC_TooMany : PySem.W.keepIn K (.ref C_TooMany) = true)
    (eC_TooMany : PySem.W.subIn K (.ref C_TooMany) (.type "BaseException") = some true)
    (tC_TooMany : PySem.W.typeIn K (.ref C_TooMany) = some (.type "type"))
    (q1_NoBack : PySem.W.excIn K C_NoBack [.type "ValueError", .type "Exception", .type "BaseException", .type "object"] "ValueError.__new__" = true)
    (kC_NoBack : PySem.W.keepIn K (.ref C_NoBack) = true)
    (eC_NoBack : PySem.W.subIn K (.ref C_NoBack) (.type "BaseException") = some true)
    (tC_NoBack : PySem.W.typeIn K (.ref C_NoBack) = some (.type "type"))
    (x0_NoBack : PySem.W.findIn K (.ref C_NoBack) "__getattribute__" = some (some (.builtin "BaseException.__getattribute__")))
    (x1_NoBack : PySem.W.findIn K (.ref C_NoBack) "__getattr__" = some none)
    (x2_NoBack : PySem.W.subIn K (.ref C_NoBack) (.type "BaseException") = some true)
    (x3_NoBack : PySem.W.hasDictIn K C_NoBack = true)
    (x4_NoBack : PySem.W.findIn K (.ref C_NoBack) "__class__" = some (some (.builtin "object.__class__")))
    (x5_NoBack : PySem.W.specialIn K (.builtin "object.__class__") "__get__" = some (some (.builtin "getset_descriptor.__get__")))
    (x6_NoBack : PySem.W.takesIn K (.builtin "object.__class__") = some true)
    (x7_NoBack : PySem.W.mroIn K C_NoBack (.type "object") = some true)
    (xb_NoBack : PySem.W.kitOne K (.ref C_NoBack) (.type "ValueError") = some true)
    (xm_NoBack : PySem.W.exmOne K (.ref C_NoBack) (.ref C_BakeError) = some true)
    (kt_NoBack_NoBack : PySem.W.kitOne K (.ref C_NoBack) (.ref C_NoBack) = some true)
    (kt_NoBack_NoBakery : PySem.W.kitOne K (.ref C_NoBack) (.ref C_NoBakery) = some false)
    (kt_NoBack_NoDay : PySem.W.kitOne K (.ref C_NoBack) (.ref C_NoDay) = some false)
    (kt_NoBack_NoNumber : PySem.W.kitOne K (.ref C_NoBack) (.ref C_NoNumber) = some false)
    (kt_NoBack_NoPart : PySem.W.kitOne K (.ref C_NoBack) (.ref C_NoPart) = some false)
    (kt_NoBack_NotPlain : PySem.W.kitOne K (.ref C_NoBack) (.ref C_NotPlain) = some false)
    (kt_NoBack_TooMany : PySem.W.kitOne K (.ref C_NoBack) (.ref C_TooMany) = some false)
    (kt_NoBack_BakeError : PySem.W.kitOne K (.ref C_NoBack) (.ref C_BakeError) = some true)
    (kt_NoBack_NoDays : PySem.W.kitOne K (.ref C_NoBack) (.ref C_NoDays) = some false)
    (kt_NoBack_NoDoughs : PySem.W.kitOne K (.ref C_NoBack) (.ref C_NoDoughs) = some false)
    (kt_NoBack_NoGood : PySem.W.kitOne K (.ref C_NoBack) (.ref C_NoGood) = some false)
    (kt_NoBack_NoName : PySem.W.kitOne K (.ref C_NoBack) (.ref C_NoName) = some false)
    (kt_NoBack_NoRow : PySem.W.kitOne K (.ref C_NoBack) (.ref C_NoRow) = some false)
    (kt_NoBack_NoText : PySem.W.kitOne K (.ref C_NoBack) (.ref C_NoText) = some false)
    (kt_NoBack_NotSteady : PySem.W.kitOne K (.ref C_NoBack) (.ref C_NotSteady) = some false)
    (kt_NoBack_TooMuch : PySem.W.kitOne K (.ref C_NoBack) (.ref C_TooMuch) = some false)
    (x0_NoBakery : PySem.W.findIn K (.ref C_NoBakery) "__getattribute__" = some (some (.builtin "BaseException.__getattribute__")))
    (x1_NoBakery : PySem.W.findIn K (.ref C_NoBakery) "__getattr__" = some none)
    (x2_NoBakery : PySem.W.subIn K (.ref C_NoBakery) (.type "BaseException") = some true)
    (x3_NoBakery : PySem.W.hasDictIn K C_NoBakery = true)
    (x4_NoBakery : PySem.W.findIn K (.ref C_NoBakery) "__class__" = some (some (.builtin "object.__class__")))
    (x5_NoBakery : PySem.W.specialIn K (.builtin "object.__class__") "__get__" = some (some (.builtin "getset_descriptor.__get__")))
    (x6_NoBakery : PySem.W.takesIn K (.builtin "object.__class__") = some true)
    (x7_NoBakery : PySem.W.mroIn K C_NoBakery (.type "object") = some true)
    (xb_NoBakery : PySem.W.kitOne K (.ref C_NoBakery) (.type "ValueError") = some true)
    (xm_NoBakery : PySem.W.exmOne K (.ref C_NoBakery) (.ref C_BakeError) = some true)
    (kt_NoBakery_NoBack : PySem.W.kitOne K (.ref C_NoBakery) (.ref C_NoBack) = some false)
    (kt_NoBakery_NoBakery : PySem.W.kitOne K (.ref C_NoBakery) (.ref C_NoBakery) = some true)
    (kt_NoBakery_NoDay : PySem.W.kitOne K (.ref C_NoBakery) (.ref C_NoDay) = some false)
    (kt_NoBakery_NoNumber : PySem.W.kitOne K (.ref C_NoBakery) (.ref C_NoNumber) = some false)
    (kt_NoBakery_NoPart : PySem.W.kitOne K (.ref C_NoBakery) (.ref C_NoPart) = some false)
    (kt_NoBakery_NotPlain : PySem.W.kitOne K (.ref C_NoBakery) (.ref C_NotPlain) = some false)
    (kt_NoBakery_TooMany : PySem.W.kitOne K (.ref C_NoBakery) (.ref C_TooMany) = some false)
    (kt_NoBakery_BakeError : PySem.W.kitOne K (.ref C_NoBakery) (.ref C_BakeError) = some true)
    (kt_NoBakery_NoDays : PySem.W.kitOne K (.ref C_NoBakery) (.ref C_NoDays) = some false)
    (kt_NoBakery_NoDoughs : PySem.W.kitOne K (.ref C_NoBakery) (.ref C_NoDoughs) = some false)
    (kt_NoBakery_NoGood : PySem.W.kitOne K (.ref C_NoBakery) (.ref C_NoGood) = some false)
    (kt_NoBakery_NoName : PySem.W.kitOne K (.ref C_NoBakery) (.ref C_NoName) = some false)
    (kt_NoBakery_NoRow : PySem.W.kitOne K (.ref C_NoBakery) (.ref C_NoRow) = some false)
    (kt_NoBakery_NoText : PySem.W.kitOne K (.ref C_NoBakery) (.ref C_NoText) = some false)
    (kt_NoBakery_NotSteady : PySem.W.kitOne K (.ref C_NoBakery) (.ref C_NotSteady) = some false)
    (kt_NoBakery_TooMuch : PySem.W.kitOne K (.ref C_NoBakery) (.ref C_TooMuch) = some false)
    (x0_NoDay : PySem.W.findIn K (.ref C_NoDay) "__getattribute__" = some (some (.builtin "BaseException.__getattribute__")))
    (x1_NoDay : PySem.W.findIn K (.ref C_NoDay) "__getattr__" = some none)
    (x2_NoDay : PySem.W.subIn K (.ref C_NoDay) (.type "BaseException") = some true)
    (x3_NoDay : PySem.W.hasDictIn K C_NoDay = true)
    (x4_NoDay : PySem.W.findIn K (.ref C_NoDay) "__class__" = some (some (.builtin "object.__class__")))
    (x5_NoDay : PySem.W.specialIn K (.builtin "object.__class__") "__get__" = some (some (.builtin "getset_descriptor.__get__")))
    (x6_NoDay : PySem.W.takesIn K (.builtin "object.__class__") = some true)
    (x7_NoDay : PySem.W.mroIn K C_NoDay (.type "object") = some true)
    (xb_NoDay : PySem.W.kitOne K (.ref C_NoDay) (.type "ValueError") = some true)
    (xm_NoDay : PySem.W.exmOne K (.ref C_NoDay) (.ref C_BakeError) = some true)
    (kt_NoDay_NoBack : PySem.W.kitOne K (.ref C_NoDay) (.ref C_NoBack) = some false)
    (kt_NoDay_NoBakery : PySem.W.kitOne K (.ref C_NoDay) (.ref C_NoBakery) = some false)
    (kt_NoDay_NoDay : PySem.W.kitOne K (.ref C_NoDay) (.ref C_NoDay) = some true)
    (kt_NoDay_NoNumber : PySem.W.kitOne K (.ref C_NoDay) (.ref C_NoNumber) = some false)
    (kt_NoDay_NoPart : PySem.W.kitOne K (.ref C_NoDay) (.ref C_NoPart) = some false)
    (kt_NoDay_NotPlain : PySem.W.kitOne K (.ref C_NoDay) (.ref C_NotPlain) = some false)
    (kt_NoDay_TooMany : PySem.W.kitOne K (.ref C_NoDay) (.ref C_TooMany) = some false)
    (kt_NoDay_BakeError : PySem.W.kitOne K (.ref C_NoDay) (.ref C_BakeError) = some true)
    (kt_NoDay_NoDays : PySem.W.kitOne K (.ref C_NoDay) (.ref C_NoDays) = some false)
    (kt_NoDay_NoDoughs : PySem.W.kitOne K (.ref C_NoDay) (.ref C_NoDoughs) = some false)
    (kt_NoDay_NoGood : PySem.W.kitOne K (.ref C_NoDay) (.ref C_NoGood) = some false)
    (kt_NoDay_NoName : PySem.W.kitOne K (.ref C_NoDay) (.ref C_NoName) = some false)
    (kt_NoDay_NoRow : PySem.W.kitOne K (.ref C_NoDay) (.ref C_NoRow) = some false)
    (kt_NoDay_NoText : PySem.W.kitOne K (.ref C_NoDay) (.ref C_NoText) = some false)
    (kt_NoDay_NotSteady : PySem.W.kitOne K (.ref C_NoDay) (.ref C_NotSteady) = some false)
    (kt_NoDay_TooMuch : PySem.W.kitOne K (.ref C_NoDay) (.ref C_TooMuch) = some false)
    (x0_NoNumber : PySem.W.findIn K (.ref C_NoNumber) "__getattribute__" = some (some (.builtin "BaseException.__getattribute__")))
    (x1_NoNumber : PySem.W.findIn K (.ref C_NoNumber) "__getattr__" = some none)
    (x2_NoNumber : PySem.W.subIn K (.ref C_NoNumber) (.type "BaseException") = some true)
    (x3_NoNumber : PySem.W.hasDictIn K C_NoNumber = true)
    (x4_NoNumber : PySem.W.findIn K (.ref C_NoNumber) "__class__" = some (some (.builtin "object.__class__")))
    (x5_NoNumber : PySem.W.specialIn K (.builtin "object.__class__") "__get__" = some (some (.builtin "getset_descriptor.__get__")))
    (x6_NoNumber : PySem.W.takesIn K (.builtin "object.__class__") = some true)
    (x7_NoNumber : PySem.W.mroIn K C_NoNumber (.type "object") = some true)
    (xb_NoNumber : PySem.W.kitOne K (.ref C_NoNumber) (.type "ValueError") = some true)
    (xm_NoNumber : PySem.W.exmOne K (.ref C_NoNumber) (.ref C_BakeError) = some true)
    (kt_NoNumber_NoBack : PySem.W.kitOne K (.ref C_NoNumber) (.ref C_NoBack) = some false)
    (kt_NoNumber_NoBakery : PySem.W.kitOne K (.ref C_NoNumber) (.ref C_NoBakery) = some false)
    (kt_NoNumber_NoDay : PySem.W.kitOne K (.ref C_NoNumber) (.ref C_NoDay) = some false)
    (kt_NoNumber_NoNumber : PySem.W.kitOne K (.ref C_NoNumber) (.ref C_NoNumber) = some true)
    (kt_NoNumber_NoPart : PySem.W.kitOne K (.ref C_NoNumber) (.ref C_NoPart) = some false)
    (kt_NoNumber_NotPlain : PySem.W.kitOne K (.ref C_NoNumber) (.ref C_NotPlain) = some false)
    (kt_NoNumber_TooMany : PySem.W.kitOne K (.ref C_NoNumber) (.ref C_TooMany) = some false)
    (kt_NoNumber_BakeError : PySem.W.kitOne K (.ref C_NoNumber) (.ref C_BakeError) = some true)
    (kt_NoNumber_NoDays : PySem.W.kitOne K (.ref C_NoNumber) (.ref C_NoDays) = some false)
    (kt_NoNumber_NoDoughs : PySem.W.kitOne K (.ref C_NoNumber) (.ref C_NoDoughs) = some false)
    (kt_NoNumber_NoGood : PySem.W.kitOne K (.ref C_NoNumber) (.ref C_NoGood) = some false)
    (kt_NoNumber_NoName : PySem.W.kitOne K (.ref C_NoNumber) (.ref C_NoName) = some false)
    (kt_NoNumber_NoRow : PySem.W.kitOne K (.ref C_NoNumber) (.ref C_NoRow) = some false)
    (kt_NoNumber_NoText : PySem.W.kitOne K (.ref C_NoNumber) (.ref C_NoText) = some false)
    (kt_NoNumber_NotSteady : PySem.W.kitOne K (.ref C_NoNumber) (.ref C_NotSteady) = some false)
    (kt_NoNumber_TooMuch : PySem.W.kitOne K (.ref C_NoNumber) (.ref C_TooMuch) = some false)
    (x0_NoPart : PySem.W.findIn K (.ref C_NoPart) "__getattribute__" = some (some (.builtin "BaseException.__getattribute__")))
    (x1_NoPart : PySem.W.findIn K (.ref C_NoPart) "__getattr__" = some none)
    (x2_NoPart : PySem.W.subIn K (.ref C_NoPart) (.type "BaseException") = some true)
    (x3_NoPart : PySem.W.hasDictIn K C_NoPart = true)
    (x4_NoPart : PySem.W.findIn K (.ref C_NoPart) "__class__" = some (some (.builtin "object.__class__")))
    (x5_NoPart : PySem.W.specialIn K (.builtin "object.__class__") "__get__" = some (some (.builtin "getset_descriptor.__get__")))
    (x6_NoPart : PySem.W.takesIn K (.builtin "object.__class__") = some true)
    (x7_NoPart : PySem.W.mroIn K C_NoPart (.type "object") = some true)
    (xb_NoPart : PySem.W.kitOne K (.ref C_NoPart) (.type "ValueError") = some true)
    (xm_NoPart : PySem.W.exmOne K (.ref C_NoPart) (.ref C_BakeError) = some true)
    (kt_NoPart_NoBack : PySem.W.kitOne K (.ref C_NoPart) (.ref C_NoBack) = some false)
    (kt_NoPart_NoBakery : PySem.W.kitOne K (.ref C_NoPart) (.ref C_NoBakery) = some false)
    (kt_NoPart_NoDay : PySem.W.kitOne K (.ref C_NoPart) (.ref C_NoDay) = some false)
    (kt_NoPart_NoNumber : PySem.W.kitOne K (.ref C_NoPart) (.ref C_NoNumber) = some false)
    (kt_NoPart_NoPart : PySem.W.kitOne K (.ref C_NoPart) (.ref C_NoPart) = some true)
    (kt_NoPart_NotPlain : PySem.W.kitOne K (.ref C_NoPart) (.ref C_NotPlain) = some false)
    (kt_NoPart_TooMany : PySem.W.kitOne K (.ref C_NoPart) (.ref C_TooMany) = some false)
    (kt_NoPart_BakeError : PySem.W.kitOne K (.ref C_NoPart) (.ref C_BakeError) = some true)
    (kt_NoPart_NoDays : PySem.W.kitOne K (.ref C_NoPart) (.ref C_NoDays) = some false)
    (kt_NoPart_NoDoughs : PySem.W.kitOne K (.ref C_NoPart) (.ref C_NoDoughs) = some false)
    (kt_NoPart_NoGood : PySem.W.kitOne K (.ref C_NoPart) (.ref C_NoGood) = some false)
    (kt_NoPart_NoName : PySem.W.kitOne K (.ref C_NoPart) (.ref C_NoName) = some false)
    (kt_NoPart_NoRow : PySem.W.kitOne K (.ref C_NoPart) (.ref C_NoRow) = some false)
    (kt_NoPart_NoText : PySem.W.kitOne K (.ref C_NoPart) (.ref C_NoText) = some false)
    (kt_NoPart_NotSteady : PySem.W.kitOne K (.ref C_NoPart) (.ref C_NotSteady) = some false)
    (kt_NoPart_TooMuch : PySem.W.kitOne K (.ref C_NoPart) (.ref C_TooMuch) = some false)
    (x0_NotPlain : PySem.W.findIn K (.ref C_NotPlain) "__getattribute__" = some (some (.builtin "BaseException.__getattribute__")))
    (x1_NotPlain : PySem.W.findIn K (.ref C_NotPlain) "__getattr__" = some none)
    (x2_NotPlain : PySem.W.subIn K (.ref C_NotPlain) (.type "BaseException") = some true)
    (x3_NotPlain : PySem.W.hasDictIn K C_NotPlain = true)
    (x4_NotPlain : PySem.W.findIn K (.ref C_NotPlain) "__class__" = some (some (.builtin "object.__class__")))
    (x5_NotPlain : PySem.W.specialIn K (.builtin "object.__class__") "__get__" = some (some (.builtin "getset_descriptor.__get__")))
    (x6_NotPlain : PySem.W.takesIn K (.builtin "object.__class__") = some true)
    (x7_NotPlain : PySem.W.mroIn K C_NotPlain (.type "object") = some true)
    (xb_NotPlain : PySem.W.kitOne K (.ref C_NotPlain) (.type "ValueError") = some true)
    (xm_NotPlain : PySem.W.exmOne K (.ref C_NotPlain) (.ref C_BakeError) = some true)
    (kt_NotPlain_NoBack : PySem.W.kitOne K (.ref C_NotPlain) (.ref C_NoBack) = some false)
    (kt_NotPlain_NoBakery : PySem.W.kitOne K (.ref C_NotPlain) (.ref C_NoBakery) = some false)
    (kt_NotPlain_NoDay : PySem.W.kitOne K (.ref C_NotPlain) (.ref C_NoDay) = some false)
    (kt_NotPlain_NoNumber : PySem.W.kitOne K (.ref C_NotPlain) (.ref C_NoNumber) = some false)
    (kt_NotPlain_NoPart : PySem.W.kitOne K (.ref C_NotPlain) (.ref C_NoPart) = some false)
    (kt_NotPlain_NotPlain : PySem.W.kitOne K (.ref C_NotPlain) (.ref C_NotPlain) = some true)
    (kt_NotPlain_TooMany : PySem.W.kitOne K (.ref C_NotPlain) (.ref C_TooMany) = some false)
    (kt_NotPlain_BakeError : PySem.W.kitOne K (.ref C_NotPlain) (.ref C_BakeError) = some true)
    (kt_NotPlain_NoDays : PySem.W.kitOne K (.ref C_NotPlain) (.ref C_NoDays) = some false)
    (kt_NotPlain_NoDoughs : PySem.W.kitOne K (.ref C_NotPlain) (.ref C_NoDoughs) = some false)
    (kt_NotPlain_NoGood : PySem.W.kitOne K (.ref C_NotPlain) (.ref C_NoGood) = some false)
    (kt_NotPlain_NoName : PySem.W.kitOne K (.ref C_NotPlain) (.ref C_NoName) = some false)
    (kt_NotPlain_NoRow : PySem.W.kitOne K (.ref C_NotPlain) (.ref C_NoRow) = some false)
    (kt_NotPlain_NoText : PySem.W.kitOne K (.ref C_NotPlain) (.ref C_NoText) = some false)
    (kt_NotPlain_NotSteady : PySem.W.kitOne K (.ref C_NotPlain) (.ref C_NotSteady) = some false)
    (kt_NotPlain_TooMuch : PySem.W.kitOne K (.ref C_NotPlain) (.ref C_TooMuch) = some false)
    (x0_TooMany : PySem.W.findIn K (.ref C_TooMany) "__getattribute__" = some (some (.builtin "BaseException.__getattribute__")))
    (x1_TooMany : PySem.W.findIn K (.ref C_TooMany) "__getattr__" = some none)
    (x2_TooMany : PySem.W.subIn K (.ref C_TooMany) (.type "BaseException") = some true)
    (x3_TooMany : PySem.W.hasDictIn K C_TooMany = true)
    (x4_TooMany : PySem.W.findIn K (.ref C_TooMany) "__class__" = some (some (.builtin "object.__class__")))
    (x5_TooMany : PySem.W.specialIn K (.builtin "object.__class__") "__get__" = some (some (.builtin "getset_descriptor.__get__")))
    (x6_TooMany : PySem.W.takesIn K (.builtin "object.__class__") = some true)
    (x7_TooMany : PySem.W.mroIn K C_TooMany (.type "object") = some true)
    (xb_TooMany : PySem.W.kitOne K (.ref C_TooMany) (.type "ValueError") = some true)
    (xm_TooMany : PySem.W.exmOne K (.ref C_TooMany) (.ref C_BakeError) = some true)
    (kt_TooMany_NoBack : PySem.W.kitOne K (.ref C_TooMany) (.ref C_NoBack) = some false)
    (kt_TooMany_NoBakery : PySem.W.kitOne K (.ref C_TooMany) (.ref C_NoBakery) = some false)
    (kt_TooMany_NoDay : PySem.W.kitOne K (.ref C_TooMany) (.ref C_NoDay) = some false)
    (kt_TooMany_NoNumber : PySem.W.kitOne K (.ref C_TooMany) (.ref C_NoNumber) = some false)
    (kt_TooMany_NoPart : PySem.W.kitOne K (.ref C_TooMany) (.ref C_NoPart) = some false)
    (kt_TooMany_NotPlain : PySem.W.kitOne K (.ref C_TooMany) (.ref C_NotPlain) = some false)
    (kt_TooMany_TooMany : PySem.W.kitOne K (.ref C_TooMany) (.ref C_TooMany) = some true)
    (kt_TooMany_BakeError : PySem.W.kitOne K (.ref C_TooMany) (.ref C_BakeError) = some true)
    (kt_TooMany_NoDays : PySem.W.kitOne K (.ref C_TooMany) (.ref C_NoDays) = some false)
    (kt_TooMany_NoDoughs : PySem.W.kitOne K (.ref C_TooMany) (.ref C_NoDoughs) = some false)
    (kt_TooMany_NoGood : PySem.W.kitOne K (.ref C_TooMany) (.ref C_NoGood) = some false)
    (kt_TooMany_NoName : PySem.W.kitOne K (.ref C_TooMany) (.ref C_NoName) = some false)
    (kt_TooMany_NoRow : PySem.W.kitOne K (.ref C_TooMany) (.ref C_NoRow) = some false)
    (kt_TooMany_NoText : PySem.W.kitOne K (.ref C_TooMany) (.ref C_NoText) = some false)
    (kt_TooMany_NotSteady : PySem.W.kitOne K (.ref C_TooMany) (.ref C_NotSteady) = some false)
    (kt_TooMany_TooMuch : PySem.W.kitOne K (.ref C_TooMany) (.ref C_TooMuch) = some false)
    (z_len : PySem.W.nsIn K mainGlobals "len" = some none) (z_max : PySem.W.nsIn K mainGlobals "max" = some none) (z_min : PySem.W.nsIn K mainGlobals "min" = some none) (z_range : PySem.W.nsIn K mainGlobals "range" = some none) (z_isinstance : PySem.W.nsIn K mainGlobals "isinstance" = some none) (z_int : PySem.W.nsIn K mainGlobals "int" = some none) (z_bool : PySem.W.nsIn K mainGlobals "bool" = some none) (z_list : PySem.W.nsIn K mainGlobals "list" = some none) (z_tuple : PySem.W.nsIn K mainGlobals "tuple" = some none) (z_all : PySem.W.nsIn K mainGlobals "all" = some none) (z_sum : PySem.W.nsIn K mainGlobals "sum" = some none) (z_repr : PySem.W.nsIn K mainGlobals "repr" = some none) (z_enumerate : PySem.W.nsIn K mainGlobals "enumerate" = some none) (z_str : PySem.W.nsIn K mainGlobals "str" = some none) (z_reversed : PySem.W.nsIn K mainGlobals "reversed" = some none) (z_ValueError : PySem.W.nsIn K mainGlobals "ValueError" = some none) (z_zip : PySem.W.nsIn K mainGlobals "zip" = some none) (z_super : PySem.W.nsIn K mainGlobals "super" = some none) (y_GREATEST : PySem.W.nsIn K mainGlobals "GREATEST" = some (some (.int 1000000000 tk_GREATEST))) (y_MOST_DAYS : PySem.W.nsIn K mainGlobals "MOST_DAYS" = some (some (.int 40 tk_MOST_DAYS))) (y_MOST_GOODS : PySem.W.nsIn K mainGlobals "MOST_GOODS" = some (some (.int 2 tk_MOST_GOODS))) (y_LONGEST_LIFE : PySem.W.nsIn K mainGlobals "LONGEST_LIFE" = some (some (.int 40 tk_LONGEST_LIFE))) (y_LIGHT : PySem.W.nsIn K mainGlobals "LIGHT" = some (some (.str "light" tk_LIGHT))) (y_FINE : PySem.W.nsIn K mainGlobals "FINE" = some (some (.str "fine" tk_FINE))) :
    ∃ fd : FuncData, (∀ (s : Shared) (v : Value), BindsTo s fd ⟨[v], []⟩ [("_law_script", v)]) ∧ ∀ base : Heap, K.In base → base.Ns mainGlobals mg → RunG l.prog w K mg base 15 fa fd ["_law_script"] (spLaw K) := by
  have e := hfa.symm.trans (PySem.W.mg_of X G a46)
  cases e
  have F1 := fun_mk (st := s_is_whole) l1 c1 k1
  have b1 := F1.binds (ps := ["thing"]) fun _ _ _ _ _ _ us hl => match us, hl with | [_], _ => rfl
  have F2 := fun_mk (st := s_is_number) l2 c2 k2
  have b2 := F2.binds (ps := ["thing"]) fun _ _ _ _ _ _ us hl => match us, hl with | [_], _ => rfl
  have F3 := fun_mk (st := s_is_tuple_of) l3 c3 k3
  have b3 := F3.binds (ps := ["thing", "many"]) fun _ _ _ _ _ _ us hl => match us, hl with | [_, _], _ => rfl
  have F4 := fun_mk (st := s_is_list_of) l4 c4 k4
  have b4 := F4.binds (ps := ["thing", "fewest", "most"]) fun _ _ _ _ _ _ us hl => match us, hl with | [_, _, _], _ => rfl
  have F5 := fun_mk (st := s_are_lights) l5 c5 k5
  have b5 := F5.binds (ps := ["thing"]) fun _ _ _ _ _ _ us hl => match us, hl with | [_], _ => rfl
  have F6 := fun_mk (st := s_is_bound) l6 c6 k6
  have b6 := F6.binds (ps := ["thing"]) fun _ _ _ _ _ _ us hl => match us, hl with | [_], _ => rfl
  have F7 := fun_mk (st := s_is_life) l7 c7 k7
  have b7 := F7.binds (ps := ["thing"]) fun _ _ _ _ _ _ us hl => match us, hl with | [_], _ => rfl
  have F8 := fun_mk (st := s_is_day) l8 c8 k8
  have b8 := F8.binds (ps := ["thing"]) fun _ _ _ _ _ _ us hl => match us, hl with | [_], _ => rfl
  have F9 := fun_mk (st := s_has_bakery_form) l9 c9 k9
  have b9 := F9.binds (ps := ["thing"]) fun _ _ _ _ _ _ us hl => match us, hl with | [_], _ => rfl
  have F10 := fun_mk (st := s_has_good_form) l10 c10 k10
  have b10 := F10.binds (ps := ["thing", "many"]) fun _ _ _ _ _ _ us hl => match us, hl with | [_, _], _ => rfl
  have F11 := fun_mk (st := s_look_at_goods) l11 c11 k11
  have b11 := F11.binds (ps := ["goods", "many"]) fun _ _ _ _ _ _ us hl => match us, hl with | [_, _], _ => rfl
  have F12 := fun_mk (st := s_look_at_bakery) l12 c12 k12
  have b12 := F12.binds (ps := ["thing"]) fun _ _ _ _ _ _ us hl => match us, hl with | [_], _ => rfl
  have F13 := fun_mk (st := s_is_plain) l13 c13 k13
  have b13 := F13.binds (ps := ["bakery"]) fun _ _ _ _ _ _ us hl => match us, hl with | [_], _ => rfl
  have F14 := fun_mk (st := s_look_at_plain) l14 c14 k14
  have b14 := F14.binds (ps := ["bakery"]) fun _ _ _ _ _ _ us hl => match us, hl with | [_], _ => rfl
  have F15 := fun_mk (st := s_is_place) l15 c15 k15
  have b15 := F15.binds (ps := ["thing", "many"]) fun _ _ _ _ _ _ us hl => match us, hl with | [_, _], _ => rfl
  have F16 := fun_mk (st := s_keeps_of) l16 c16 k16
  have b16 := F16.binds (ps := ["days", "first", "behind"]) fun _ _ _ _ _ _ us hl => match us, hl with | [_, _, _], _ => rfl
  have F17 := fun_mk (st := s_fines_of) l17 c17 k17
  have b17 := F17.binds (ps := ["days", "first", "behind"]) fun _ _ _ _ _ _ us hl => match us, hl with | [_, _, _], _ => rfl
  have F18 := fun_mk (st := s_loaf_price) l18 c18 k18
  have b18 := F18.binds (ps := ["good", "baked", "given"]) fun _ _ _ _ _ _ us hl => match us, hl with | [_, _, _], _ => rfl
  have F19 := fun_mk (st := s_wanted_price) l19 c19 k19
  have b19 := F19.binds (ps := ["good", "baked", "given"]) fun _ _ _ _ _ _ us hl => match us, hl with | [_, _, _], _ => rfl
  have F20 := fun_mk (st := s_wanted_table) l20 c20 k20
  have b20 := F20.binds (ps := ["good"]) fun _ _ _ _ _ _ us hl => match us, hl with | [_], _ => rfl
  have F21 := fun_mk (st := s_least_baked_on) l21 c21 k21
  have b21 := F21.binds (ps := ["row", "light", "prices", "many"]) fun _ _ _ _ _ _ us hl => match us, hl with | [_, _, _, _], _ => rfl
  have F22 := fun_mk (st := s_least_of) l22 c22 k22
  have b22 := F22.binds (ps := ["row", "lights", "table", "many", "ovens"]) fun _ _ _ _ _ _ us hl => match us, hl with | [_, _, _, _, _], _ => rfl
  have F23 := fun_mk (st := s_is_unwanted) l23 c23 k23
  have b23 := F23.binds (ps := ["good", "day"]) fun _ _ _ _ _ _ us hl => match us, hl with | [_, _], _ => rfl
  have F24 := fun_mk (st := s_least_row) l24 c24 k24
  have b24 := F24.binds (ps := ["bakery"]) fun _ _ _ _ _ _ us hl => match us, hl with | [_], _ => rfl
  have F25 := fun_mk (st := s_is_part) l25 c25 k25
  have b25 := F25.binds (ps := ["thing"]) fun _ _ _ _ _ _ us hl => match us, hl with | [_], _ => rfl
  have F26 := fun_mk (st := s_is_worth) l26 c26 k26
  have b26 := F26.binds (ps := ["part", "thing"]) fun _ _ _ _ _ _ us hl => match us, hl with | [_, _], _ => rfl
  have F27 := fun_mk (st := s_with_part) l27 c27 k27
  have b27 := F27.binds (ps := ["day", "part", "number"]) fun _ _ _ _ _ _ us hl => match us, hl with | [_, _, _], _ => rfl
  have F28 := fun_mk (st := s_others_now) l28 c28 k28
  have b28 := F28.binds (ps := ["before", "after"]) fun _ _ _ _ _ _ us hl => match us, hl with | [_, _], _ => rfl
  have F29 := fun_mk (st := s_cell_at) l29 c29 k29
  have b29 := F29.binds (ps := ["_law_script", "_law_k"]) fun _ _ _ _ _ _ us hl => match us, hl with | [_, _], _ => rfl
  have F30 := fun_mk (st := s_numbers) l30 c30 k30
  have b30 := F30.binds (ps := ["_law_cell", "_law_salt", "_law_sizes"]) fun _ _ _ _ _ _ us hl => match us, hl with | [_, _, _], _ => rfl
  have F31 := fun_mk (st := s_whole) l31 c31 k31
  have b31 := F31.binds (ps := ["_law_thing_here"]) fun _ _ _ _ _ _ us hl => match us, hl with | [_], _ => rfl
  have F32 := fun_mk (st := s_day) l32 c32 k32
  have b32 := F32.binds (ps := ["_law_digits", "_law_late"]) fun _ _ _ _ _ _ us hl => match us, hl with | [_, _], _ => rfl
  have F33 := fun_mk (st := s_bakery) l33 c33 k33
  have b33 := F33.binds (ps := ["_law_script", "_law_upto", "_law_salt"]) fun _ _ _ _ _ _ us hl => match us, hl with | [_, _, _], _ => rfl
  have F34 := fun_mk (st := s_word) l34 c34 k34
  have b34 := F34.binds (ps := ["_law_error"]) fun _ _ _ _ _ _ us hl => match us, hl with | [_], _ => rfl
  have F35 := fun_mk (st := s_asked) l35 c35 k35
  have b35 := F35.binds (ps := ["_law_ledger", "_law_word_here", "_law_things"]) fun _ _ _ _ _ _ us hl => match us, hl with | [_, _, _], _ => rfl
  have F36 := fun_mk (st := s_is_number_l) l36 c36 k36
  have b36 := F36.binds (ps := ["_law_thing_here"]) fun _ _ _ _ _ _ us hl => match us, hl with | [_], _ => rfl
  have F37 := fun_mk (st := s_thing) l37 c37 k37
  have b37 := F37.binds (ps := ["_law_digit", "_law_far"]) fun _ _ _ _ _ _ us hl => match us, hl with | [_, _], _ => rfl
  have F38 := fun_mk (st := s_is_day_l) l38 c38 k38
  have b38 := F38.binds (ps := ["_law_thing_here"]) fun _ _ _ _ _ _ us hl => match us, hl with | [_], _ => rfl
  have F39 := fun_mk (st := s_row) l39 c39 k39
  have b39 := F39.binds (ps := ["_law_digits"]) fun _ _ _ _ _ _ us hl => match us, hl with | [_], _ => rfl
  have F40 := fun_mk (st := s_add_due) l40 c40 k40
  have b40 := F40.binds (ps := ["_law_light", "_law_day_here", "_law_many"]) fun _ _ _ _ _ _ us hl => match us, hl with | [_, _, _], _ => rfl
  have F41 := fun_mk (st := s_change_due) l41 c41 k41
  have b41 := F41.binds (ps := ["_law_day_here", "_law_part_here", "_law_number", "_law_many"]) fun _ _ _ _ _ _ us hl => match us, hl with | [_, _, _, _], _ => rfl
  have F42 := fun_mk (st := s_part) l42 c42 k42
  have b42 := F42.binds (ps := ["_law_digits"]) fun _ _ _ _ _ _ us hl => match us, hl with | [_], _ => rfl
  have F43 := fun_mk (st := s_right) l43 c43 k43
  have b43 := F43.binds (ps := ["_law_ledger", "_law_digits"]) fun _ _ _ _ _ _ us hl => match us, hl with | [_, _], _ => rfl
  have F44 := fun_mk (st := s_full) l44 c44 k44
  have b44 := F44.binds (ps := ["_law_ledger"]) fun _ _ _ _ _ _ us hl => match us, hl with | [_], _ => rfl
  have F45 := fun_mk (st := s_spoilt_right) l45 c45 k45
  have b45 := F45.binds (ps := []) fun _ _ _ _ _ _ us hl => match us, hl with | [], _ => rfl
  have F46 := fun_mk (st := s_law) l46 c46 k46
  have b46 := F46.binds (ps := ["_law_script"]) fun _ _ _ _ _ _ us hl => match us, hl with | [_], _ => rfl
  have B : Bi mg := ⟨PySem.W.mg_none_of X G z_len, PySem.W.mg_none_of X G z_max, PySem.W.mg_none_of X G z_min, PySem.W.mg_none_of X G z_range, PySem.W.mg_none_of X G z_isinstance, PySem.W.mg_none_of X G z_int, PySem.W.mg_none_of X G z_bool, PySem.W.mg_none_of X G z_list, PySem.W.mg_none_of X G z_tuple, PySem.W.mg_none_of X G z_all, PySem.W.mg_none_of X G z_sum, PySem.W.mg_none_of X G z_repr, PySem.W.mg_none_of X G z_enumerate⟩
  have M_GREATEST := PySem.W.mg_of X G y_GREATEST
  have M_MOST_DAYS := PySem.W.mg_of X G y_MOST_DAYS
  have M_MOST_GOODS := PySem.W.mg_of X G y_MOST_GOODS
  have M_LONGEST_LIFE := PySem.W.mg_of X G y_LONGEST_LIFE
  have M_LIGHT := PySem.W.mg_of X G y_LIGHT
  have M_FINE := PySem.W.mg_of X G y_FINE
  refine ⟨PySem.W.fnOf "law" "law" (defArgs s_law) (defBody s_law) (defScope s_law) .none kV46 dc46 pm46 an46 cd46 ct46, fun s v => .of_eq rfl, fun base _ _ => ?_⟩
  have Bz := PySem.W.mg_none_of X G z_zip
  have Bv := PySem.W.mg_none_of X G z_ValueError
  have Br := PySem.W.mg_none_of X G z_reversed
  have Bq := PySem.W.mg_none_of X G z_str
  have OC_NoBakery : OexC K C_NoBakery := ⟨⟨nm_NoBakery, q_NoBakery, N_NoBakery, bs_NoBakery, _, sn_NoBakery, sub_NoBakery, ab_NoBakery, col_NoBakery, dd_NoBakery, m0_NoBakery, m1_NoBakery, m2_NoBakery, m3_NoBakery, m5_NoBakery, xL_NoBakery, rfl⟩, sa_NoBakery, eC_NoBakery, tC_NoBakery, kC_NoBakery⟩
  have NB_NoBakery : Err2 l.prog w K mg base "NoBakery" C_NoBakery "good" "day" := ⟨PySem.W.mg_of X G aC_NoBakery, OC_NoBakery, _, _, a1_NoBakery, t1_NoBakery, .all (fun us hl => match us, hl with | [_, _, _], _ => rfl), ok_nb l1_NoBakery c1_NoBakery OC_NoBakery ⟨⟨_, _, _, _, _, _, uc_NoBakery, uf_NoBakery, ue_NoBakery⟩, ⟨_, _, _, ul_NoBakery⟩, us_NoBakery, um_NoBakery, ub_NoBakery, z_super, up_NoBakery, ut_NoBakery⟩ n1_NoBakery n2_NoBakery⟩
  have HX := exm_own eC_NoBakery iC_NoBakery tC_NoBakery sC_NoBakery
  have M_NotPlain := PySem.W.mg_of X G aC_NotPlain
  have M_NoNumber := PySem.W.mg_of X G aC_NoNumber
  have M_NoDay := PySem.W.mg_of X G aC_NoDay
  have M_NoPart := PySem.W.mg_of X G aC_NoPart
  have M_TooMany := PySem.W.mg_of X G aC_TooMany
  have M_NoBack := PySem.W.mg_of X G aC_NoBack
  have M_BakeError := PySem.W.mg_of X G aC_BakeError
  have M_NoBakery := PySem.W.mg_of X G aC_NoBakery
  have M_NoDays := PySem.W.mg_of X G aC_NoDays
  have M_NoDoughs := PySem.W.mg_of X G aC_NoDoughs
  have M_NoGood := PySem.W.mg_of X G aC_NoGood
  have M_NoName := PySem.W.mg_of X G aC_NoName
  have M_NoRow := PySem.W.mg_of X G aC_NoRow
  have M_NoText := PySem.W.mg_of X G aC_NoText
  have M_NotSteady := PySem.W.mg_of X G aC_NotSteady
  have M_TooMuch := PySem.W.mg_of X G aC_TooMuch
  have E1_NotPlain : Err1 K mg "NotPlain" C_NotPlain := ⟨M_NotPlain, q1_NotPlain, kC_NotPlain, eC_NotPlain, tC_NotPlain⟩
  have E1_NoNumber : Err1 K mg "NoNumber" C_NoNumber := ⟨M_NoNumber, q1_NoNumber, kC_NoNumber, eC_NoNumber, tC_NoNumber⟩
  have E1_NoDay : Err1 K mg "NoDay" C_NoDay := ⟨M_NoDay, q1_NoDay, kC_NoDay, eC_NoDay, tC_NoDay⟩
  have E1_NoPart : Err1 K mg "NoPart" C_NoPart := ⟨M_NoPart, q1_NoPart, kC_NoPart, eC_NoPart, tC_NoPart⟩
  have E1_TooMany : Err1 K mg "TooMany" C_TooMany := ⟨M_TooMany, q1_TooMany, kC_TooMany, eC_TooMany, tC_TooMany⟩
  have E1_NoBack : Err1 K mg "NoBack" C_NoBack := ⟨M_NoBack, q1_NoBack, kC_NoBack, eC_NoBack, tC_NoBack⟩
  have T_NoBack : Kinds K C_NoBack [C_NoBack, C_NoBakery, C_NoDay, C_NoNumber, C_NoPart, C_NotPlain, C_TooMany, C_BakeError, C_NoDays, C_NoDoughs, C_NoGood, C_NoName, C_NoRow, C_NoText, C_NotSteady, C_TooMuch] [true, false, false, false, false, false, false, true, false, false, false, false, false, false, false, false] := ⟨⟨x0_NoBack, x1_NoBack, x2_NoBack, x3_NoBack, x4_NoBack, x5_NoBack, x6_NoBack, x7_NoBack⟩, (fun i c h => match i, h with | 0, h => by cases h; exact ⟨_, rfl, kt_NoBack_NoBack⟩ | 1, h => by cases h; exact ⟨_, rfl, kt_NoBack_NoBakery⟩ | 2, h => by cases h; exact ⟨_, rfl, kt_NoBack_NoDay⟩ | 3, h => by cases h; exact ⟨_, rfl, kt_NoBack_NoNumber⟩ | 4, h => by cases h; exact ⟨_, rfl, kt_NoBack_NoPart⟩ | 5, h => by cases h; exact ⟨_, rfl, kt_NoBack_NotPlain⟩ | 6, h => by cases h; exact ⟨_, rfl, kt_NoBack_TooMany⟩ | 7, h => by cases h; exact ⟨_, rfl, kt_NoBack_BakeError⟩ | 8, h => by cases h; exact ⟨_, rfl, kt_NoBack_NoDays⟩ | 9, h => by cases h; exact ⟨_, rfl, kt_NoBack_NoDoughs⟩ | 10, h => by cases h; exact ⟨_, rfl, kt_NoBack_NoGood⟩ | 11, h => by cases h; exact ⟨_, rfl, kt_NoBack_NoName⟩ | 12, h => by cases h; exact ⟨_, rfl, kt_NoBack_NoRow⟩ | 13, h => by cases h; exact ⟨_, rfl, kt_NoBack_NoText⟩ | 14, h => by cases h; exact ⟨_, rfl, kt_NoBack_NotSteady⟩ | 15, h => by cases h; exact ⟨_, rfl, kt_NoBack_TooMuch⟩ | _ + 16, h => nomatch h), xb_NoBack⟩
  have T_NoBakery : Kinds K C_NoBakery [C_NoBack, C_NoBakery, C_NoDay, C_NoNumber, C_NoPart, C_NotPlain, C_TooMany, C_BakeError, C_NoDays, C_NoDoughs, C_NoGood, C_NoName, C_NoRow, C_NoText, C_NotSteady, C_TooMuch] [false, true, false, false, false, false, false, true, false, false, false, false, false, false, false, false] := ⟨⟨x0_NoBakery, x1_NoBakery, x2_NoBakery, x3_NoBakery, x4_NoBakery, x5_NoBakery, x6_NoBakery, x7_NoBakery⟩, (fun i c h => match i, h with | 0, h => by cases h; exact ⟨_, rfl, kt_NoBakery_NoBack⟩ | 1, h => by cases h; exact ⟨_, rfl, kt_NoBakery_NoBakery⟩ | 2, h => by cases h; exact ⟨_, rfl, kt_NoBakery_NoDay⟩ | 3, h => by cases h; exact ⟨_, rfl, kt_NoBakery_NoNumber⟩ | 4, h => by cases h; exact ⟨_, rfl, kt_NoBakery_NoPart⟩ | 5, h => by cases h; exact ⟨_, rfl, kt_NoBakery_NotPlain⟩ | 6, h => by cases h; exact ⟨_, rfl, kt_NoBakery_TooMany⟩ | 7, h => by cases h; exact ⟨_, rfl, kt_NoBakery_BakeError⟩ | 8, h => by cases h; exact ⟨_, rfl, kt_NoBakery_NoDays⟩ | 9, h => by cases h; exact ⟨_, rfl, kt_NoBakery_NoDoughs⟩ | 10, h => by cases h; exact ⟨_, rfl, kt_NoBakery_NoGood⟩ | 11, h => by cases h; exact ⟨_, rfl, kt_NoBakery_NoName⟩ | 12, h => by cases h; exact ⟨_, rfl, kt_NoBakery_NoRow⟩ | 13, h => by cases h; exact ⟨_, rfl, kt_NoBakery_NoText⟩ | 14, h => by cases h; exact ⟨_, rfl, kt_NoBakery_NotSteady⟩ | 15, h => by cases h; exact ⟨_, rfl, kt_NoBakery_TooMuch⟩ | _ + 16, h => nomatch h), xb_NoBakery⟩
  have T_NoDay : Kinds K C_NoDay [C_NoBack, C_NoBakery, C_NoDay, C_NoNumber, C_NoPart, C_NotPlain, C_TooMany, C_BakeError, C_NoDays, C_NoDoughs, C_NoGood, C_NoName, C_NoRow, C_NoText, C_NotSteady, C_TooMuch] [false, false, true, false, false, false, false, true, false, false, false, false, false, false, false, false] := ⟨⟨x0_NoDay, x1_NoDay, x2_NoDay, x3_NoDay, x4_NoDay, x5_NoDay, x6_NoDay, x7_NoDay⟩, (fun i c h => match i, h with | 0, h => by cases h; exact ⟨_, rfl, kt_NoDay_NoBack⟩ | 1, h => by cases h; exact ⟨_, rfl, kt_NoDay_NoBakery⟩ | 2, h => by cases h; exact ⟨_, rfl, kt_NoDay_NoDay⟩ | 3, h => by cases h; exact ⟨_, rfl, kt_NoDay_NoNumber⟩ | 4, h => by cases h; exact ⟨_, rfl, kt_NoDay_NoPart⟩ | 5, h => by cases h; exact ⟨_, rfl, kt_NoDay_NotPlain⟩ | 6, h => by cases h; exact ⟨_, rfl, kt_NoDay_TooMany⟩ | 7, h => by cases h; exact ⟨_, rfl, kt_NoDay_BakeError⟩ | 8, h => by cases h; exact ⟨_, rfl, kt_NoDay_NoDays⟩ | 9, h => by cases h; exact ⟨_, rfl, kt_NoDay_NoDoughs⟩ | 10, h => by cases h; exact ⟨_, rfl, kt_NoDay_NoGood⟩ | 11, h => by cases h; exact ⟨_, rfl, kt_NoDay_NoName⟩ | 12, h => by cases h; exact ⟨_, rfl, kt_NoDay_NoRow⟩ | 13, h => by cases h; exact ⟨_, rfl, kt_NoDay_NoText⟩ | 14, h => by cases h; exact ⟨_, rfl, kt_NoDay_NotSteady⟩ | 15, h => by cases h; exact ⟨_, rfl, kt_NoDay_TooMuch⟩ | _ + 16, h => nomatch h), xb_NoDay⟩
  have T_NoNumber : Kinds K C_NoNumber [C_NoBack, C_NoBakery, C_NoDay, C_NoNumber, C_NoPart, C_NotPlain, C_TooMany, C_BakeError, C_NoDays, C_NoDoughs, C_NoGood, C_NoName, C_NoRow, C_NoText, C_NotSteady, C_TooMuch] [false, false, false, true, false, false, false, true, false, false, false, false, false, false, false, false] := ⟨⟨x0_NoNumber, x1_NoNumber, x2_NoNumber, x3_NoNumber, x4_NoNumber, x5_NoNumber, x6_NoNumber, x7_NoNumber⟩, (fun i c h => match i, h with | 0, h => by cases h; exact ⟨_, rfl, kt_NoNumber_NoBack⟩ | 1, h => by cases h; exact ⟨_, rfl, kt_NoNumber_NoBakery⟩ | 2, h => by cases h; exact ⟨_, rfl, kt_NoNumber_NoDay⟩ | 3, h => by cases h; exact ⟨_, rfl, kt_NoNumber_NoNumber⟩ | 4, h => by cases h; exact ⟨_, rfl, kt_NoNumber_NoPart⟩ | 5, h => by cases h; exact ⟨_, rfl, kt_NoNumber_NotPlain⟩ | 6, h => by cases h; exact ⟨_, rfl, kt_NoNumber_TooMany⟩ | 7, h => by cases h; exact ⟨_, rfl, kt_NoNumber_BakeError⟩ | 8, h => by cases h; exact ⟨_, rfl, kt_NoNumber_NoDays⟩ | 9, h => by cases h; exact ⟨_, rfl, kt_NoNumber_NoDoughs⟩ | 10, h => by cases h; exact ⟨_, rfl, kt_NoNumber_NoGood⟩ | 11, h => by cases h; exact ⟨_, rfl, kt_NoNumber_NoName⟩ | 12, h => by cases h; exact ⟨_, rfl, kt_NoNumber_NoRow⟩ | 13, h => by cases h; exact ⟨_, rfl, kt_NoNumber_NoText⟩ | 14, h => by cases h; exact ⟨_, rfl, kt_NoNumber_NotSteady⟩ | 15, h => by cases h; exact ⟨_, rfl, kt_NoNumber_TooMuch⟩ | _ + 16, h => nomatch h), xb_NoNumber⟩
  have T_NoPart : Kinds K C_NoPart [C_NoBack, C_NoBakery, C_NoDay, C_NoNumber, C_NoPart, C_NotPlain, C_TooMany, C_BakeError, C_NoDays, C_NoDoughs, C_NoGood, C_NoName, C_NoRow, C_NoText, C_NotSteady, C_TooMuch] [false, false, false, false, true, false, false, true, false, false, false, false, false, false, false, false] := ⟨⟨x0_NoPart, x1_NoPart, x2_NoPart, x3_NoPart, x4_NoPart, x5_NoPart, x6_NoPart, x7_NoPart⟩, (fun i c h => match i, h with | 0, h => by cases h; exact ⟨_, rfl, kt_NoPart_NoBack⟩ | 1, h => by cases h; exact ⟨_, rfl, kt_NoPart_NoBakery⟩ | 2, h => by cases h; exact ⟨_, rfl, kt_NoPart_NoDay⟩ | 3, h => by cases h; exact ⟨_, rfl, kt_NoPart_NoNumber⟩ | 4, h => by cases h; exact ⟨_, rfl, kt_NoPart_NoPart⟩ | 5, h => by cases h; exact ⟨_, rfl, kt_NoPart_NotPlain⟩ | 6, h => by cases h; exact ⟨_, rfl, kt_NoPart_TooMany⟩ | 7, h => by cases h; exact ⟨_, rfl, kt_NoPart_BakeError⟩ | 8, h => by cases h; exact ⟨_, rfl, kt_NoPart_NoDays⟩ | 9, h => by cases h; exact ⟨_, rfl, kt_NoPart_NoDoughs⟩ | 10, h => by cases h; exact ⟨_, rfl, kt_NoPart_NoGood⟩ | 11, h => by cases h; exact ⟨_, rfl, kt_NoPart_NoName⟩ | 12, h => by cases h; exact ⟨_, rfl, kt_NoPart_NoRow⟩ | 13, h => by cases h; exact ⟨_, rfl, kt_NoPart_NoText⟩ | 14, h => by cases h; exact ⟨_, rfl, kt_NoPart_NotSteady⟩ | 15, h => by cases h; exact ⟨_, rfl, kt_NoPart_TooMuch⟩ | _ + 16, h => nomatch h), xb_NoPart⟩
  have T_NotPlain : Kinds K C_NotPlain [C_NoBack, C_NoBakery, C_NoDay, C_NoNumber, C_NoPart, C_NotPlain, C_TooMany, C_BakeError, C_NoDays, C_NoDoughs, C_NoGood, C_NoName, C_NoRow, C_NoText, C_NotSteady, C_TooMuch] [false, false, false, false, false, true, false, true, false, false, false, false, false, false, false, false] := ⟨⟨x0_NotPlain, x1_NotPlain, x2_NotPlain, x3_NotPlain, x4_NotPlain, x5_NotPlain, x6_NotPlain, x7_NotPlain⟩, (fun i c h => match i, h with | 0, h => by cases h; exact ⟨_, rfl, kt_NotPlain_NoBack⟩ | 1, h => by cases h; exact ⟨_, rfl, kt_NotPlain_NoBakery⟩ | 2, h => by cases h; exact ⟨_, rfl, kt_NotPlain_NoDay⟩ | 3, h => by cases h; exact ⟨_, rfl, kt_NotPlain_NoNumber⟩ | 4, h => by cases h; exact ⟨_, rfl, kt_NotPlain_NoPart⟩ | 5, h => by cases h; exact ⟨_, rfl, kt_NotPlain_NotPlain⟩ | 6, h => by cases h; exact ⟨_, rfl, kt_NotPlain_TooMany⟩ | 7, h => by cases h; exact ⟨_, rfl, kt_NotPlain_BakeError⟩ | 8, h => by cases h; exact ⟨_, rfl, kt_NotPlain_NoDays⟩ | 9, h => by cases h; exact ⟨_, rfl, kt_NotPlain_NoDoughs⟩ | 10, h => by cases h; exact ⟨_, rfl, kt_NotPlain_NoGood⟩ | 11, h => by cases h; exact ⟨_, rfl, kt_NotPlain_NoName⟩ | 12, h => by cases h; exact ⟨_, rfl, kt_NotPlain_NoRow⟩ | 13, h => by cases h; exact ⟨_, rfl, kt_NotPlain_NoText⟩ | 14, h => by cases h; exact ⟨_, rfl, kt_NotPlain_NotSteady⟩ | 15, h => by cases h; exact ⟨_, rfl, kt_NotPlain_TooMuch⟩ | _ + 16, h => nomatch h), xb_NotPlain⟩
  have T_TooMany : Kinds K C_TooMany [C_NoBack, C_NoBakery, C_NoDay, C_NoNumber, C_NoPart, C_NotPlain, C_TooMany, C_BakeError, C_NoDays, C_NoDoughs, C_NoGood, C_NoName, C_NoRow, C_NoText, C_NotSteady, C_TooMuch] [false, false, false, false, false, false, true, true, false, false, false, false, false, false, false, false] := ⟨⟨x0_TooMany, x1_TooMany, x2_TooMany, x3_TooMany, x4_TooMany, x5_TooMany, x6_TooMany, x7_TooMany⟩, (fun i c h => match i, h with | 0, h => by cases h; exact ⟨_, rfl, kt_TooMany_NoBack⟩ | 1, h => by cases h; exact ⟨_, rfl, kt_TooMany_NoBakery⟩ | 2, h => by cases h; exact ⟨_, rfl, kt_TooMany_NoDay⟩ | 3, h => by cases h; exact ⟨_, rfl, kt_TooMany_NoNumber⟩ | 4, h => by cases h; exact ⟨_, rfl, kt_TooMany_NoPart⟩ | 5, h => by cases h; exact ⟨_, rfl, kt_TooMany_NotPlain⟩ | 6, h => by cases h; exact ⟨_, rfl, kt_TooMany_TooMany⟩ | 7, h => by cases h; exact ⟨_, rfl, kt_TooMany_BakeError⟩ | 8, h => by cases h; exact ⟨_, rfl, kt_TooMany_NoDays⟩ | 9, h => by cases h; exact ⟨_, rfl, kt_TooMany_NoDoughs⟩ | 10, h => by cases h; exact ⟨_, rfl, kt_TooMany_NoGood⟩ | 11, h => by cases h; exact ⟨_, rfl, kt_TooMany_NoName⟩ | 12, h => by cases h; exact ⟨_, rfl, kt_TooMany_NoRow⟩ | 13, h => by cases h; exact ⟨_, rfl, kt_TooMany_NoText⟩ | 14, h => by cases h; exact ⟨_, rfl, kt_TooMany_NotSteady⟩ | 15, h => by cases h; exact ⟨_, rfl, kt_TooMany_TooMuch⟩ | _ + 16, h => nomatch h), xb_TooMany⟩
  have BE : BaseE K mg C_BakeError [C_NoBack, C_NoBakery, C_NoDay, C_NoNumber, C_NoPart, C_NotPlain, C_TooMany] := ⟨M_BakeError, fun c hc => by simp only [List.mem_cons, List.not_mem_nil, or_false] at hc; rcases hc with rfl | rfl | rfl | rfl | rfl | rfl | rfl <;> assumption⟩
  have TX : LTxt K C_Ledger := ⟨⟨pg_Ledger, hd_Ledger, po_Ledger, sa_Ledger⟩, n1_Ledger, n2_Ledger, n3_Ledger, n4_Ledger⟩
  have Fm_init := fun_mk (st := s_Ledger_init) lm_init cm_init km_init
  have bm_init := Fm_init.binds (ps := ["self", "bakery"]) fun _ _ _ _ _ _ us hl => match us, hl with | [_, _], _ => rfl
  have Fm_bakery := fun_mk (st := s_Ledger_bakery) lm_bakery cm_bakery km_bakery
  have bm_bakery := Fm_bakery.binds (ps := ["self"]) fun _ _ _ _ _ _ us hl => match us, hl with | [_], _ => rfl
  have Fm_costs := fun_mk (st := s_Ledger_costs) lm_costs cm_costs km_costs
  have bm_costs := Fm_costs.binds (ps := ["self"]) fun _ _ _ _ _ _ us hl => match us, hl with | [_], _ => rfl
  have Fm_worth_at := fun_mk (st := s_Ledger_worth_at) lm_worth_at cm_worth_at km_worth_at
  have bm_worth_at := Fm_worth_at.binds (ps := ["self", "day", "part"]) fun _ _ _ _ _ _ us hl => match us, hl with | [_, _, _], _ => rfl
  have Fm_set_part := fun_mk (st := s_Ledger_set_part) lm_set_part cm_set_part km_set_part
  have bm_set_part := Fm_set_part.binds (ps := ["self", "day", "part", "number"]) fun _ _ _ _ _ _ us hl => match us, hl with | [_, _, _, _], _ => rfl
  have Fm_change : FunD K "change" "Ledger.change" (defArgs s_Ledger_change) (defBody s_Ledger_change) (defScope s_Ledger_change) [.non] [] fm_change _ := ⟨⟨_, _, _, _, _, _, _, _, _, _, rfl, lm_change, cm_change, .inr ⟨List.cons_ne_nil _ _, Td_change, _, [.none], _, rfl, ld_change, rfl, .cons rfl .nil⟩, .inl rfl⟩, km_change⟩
  have bm_change := binds_one (ps := ["self", "day", "part", "number"]) Fm_change fun _ _ _ _ _ _ _ us its hl hi => match us, its, hl, hi with | [_, _, _, _], [_], _, _ => ⟨_, rfl, rfl⟩
  have Fm_add := fun_mk (st := s_Ledger_add) lm_add cm_add km_add
  have bm_add := Fm_add.binds (ps := ["self", "light", "day"]) fun _ _ _ _ _ _ us hl => match us, hl with | [_, _, _], _ => rfl
  have Fm_back := fun_mk (st := s_Ledger_back) lm_back cm_back km_back
  have bm_back := Fm_back.binds (ps := ["self"]) fun _ _ _ _ _ _ us hl => match us, hl with | [_], _ => rfl
  have M_PARTS := PySem.W.mg_of X G aP_PARTS
  have PT : PartsT K A_PARTS := fun _ => .inr ⟨_, _, _, lP_PARTS, rfl, rfl, by show 4 ≤ sizeLine; decide, .cons ⟨_, rfl⟩ (.cons ⟨_, rfl⟩ (.cons ⟨_, rfl⟩ (.cons ⟨_, rfl⟩ .nil)))⟩
  have PTy : ∃ o, K.lookup A_PARTS = some o ∧ o.cls = .type "tuple" ∧ o.dict = none := ⟨_, lP_PARTS, rfl, rfl⟩
  have D1 : Def l.prog w K mg base "is_whole" 1 ["thing"] (spWhole K) := ⟨_, _, PySem.W.mg_of X G a1, k1, b1, ok_is_whole F1 B⟩
  have D2 : Def l.prog w K mg base "is_number" 2 ["thing"] (spNum K) := ⟨_, _, PySem.W.mg_of X G a2, k2, b2, ok_is_number (k := 0) F2 B M_GREATEST D1⟩
  have D3 : Def l.prog w K mg base "is_tuple_of" 1 ["thing", "many"] (spTupleOf K) := ⟨_, _, PySem.W.mg_of X G a3, k3, b3, ok_is_tuple_of F3 B⟩
  have D4 : Def l.prog w K mg base "is_list_of" 1 ["thing", "fewest", "most"] (spListOf K) := ⟨_, _, PySem.W.mg_of X G a4, k4, b4, ok_is_list_of F4 B⟩
  have D5 : Def l.prog w K mg base "are_lights" 3 ["thing"] (spPred K lightsB) := ⟨_, _, PySem.W.mg_of X G a5, k5, b5, ok_are_lights F5 B M_MOST_DAYS D4 D2⟩
  have D6 : Def l.prog w K mg base "is_bound" 3 ["thing"] (spPred K boundB) := ⟨_, _, PySem.W.mg_of X G a6, k6, b6, ok_is_bound F6 D2⟩
  have D7 : Def l.prog w K mg base "is_life" 3 ["thing"] (spPred K lifeB) := ⟨_, _, PySem.W.mg_of X G a7, k7, b7, ok_is_life F7 M_LONGEST_LIFE D1⟩
  have D8 : Def l.prog w K mg base "is_day" 3 ["thing"] (spPred K dayB) := ⟨_, _, PySem.W.mg_of X G a8, k8, b8, ok_is_day F8 B D3 D2⟩
  have D9 : Def l.prog w K mg base "has_bakery_form" 4 ["thing"] (spPred K bakFormB) := ⟨_, _, PySem.W.mg_of X G a9, k9, b9, ok_has_bakery_form F9 D3 D5 D6 D4 M_MOST_GOODS⟩
  have D10 : Def l.prog w K mg base "has_good_form" 4 ["thing", "many"] (spGoodForm K) := ⟨_, _, PySem.W.mg_of X G a10, k10, b10, ok_has_good_form F10 D3 D7 D4⟩
  have D11 : Def l.prog w K mg base "look_at_goods" 5 ["goods", "many"] (spLookGoods K) := ⟨_, _, PySem.W.mg_of X G a11, k11, b11, ok_look_at_goods F11 B D10 D8⟩
  have DX11 : DefX l.prog w K mg base "look_at_goods" 5 ["goods", "many"] (spLookGoodsX K C_NoBakery) := ⟨_, _, PySem.W.mg_of X G a11, k11, b11, okx_look_at_goods F11 B NB_NoBakery D10 D8⟩
  have D12 : Def l.prog w K mg base "look_at_bakery" 6 ["thing"] (spLook K) := ⟨_, _, PySem.W.mg_of X G a12, k12, b12, ok_look_at_bakery F12 B D9 D11⟩
  have DX12 : DefX l.prog w K mg base "look_at_bakery" 6 ["thing"] (spLookX K C_NoBakery) := ⟨_, _, PySem.W.mg_of X G a12, k12, b12, okx_look_at_bakery F12 B NB_NoBakery D9 DX11⟩
  have D13 : Def l.prog w K mg base "is_plain" 7 ["bakery"] (spPlain K (.bl true)) := ⟨_, _, PySem.W.mg_of X G a13, k13, b13, ok_is_plain F13 B D12⟩
  have DX13 : DefX l.prog w K mg base "is_plain" 7 ["bakery"] (spPlainX K C_NoBakery) := ⟨_, _, PySem.W.mg_of X G a13, k13, b13, okx_is_plain F13 B DX12⟩
  have D14 : Def l.prog w K mg base "look_at_plain" 8 ["bakery"] (spPlain K .non) := ⟨_, _, PySem.W.mg_of X G a14, k14, b14, ok_look_at_plain F14 D13⟩
  have DX14 : DefX l.prog w K mg base "look_at_plain" 8 ["bakery"] (spLookPlX K C_NoBakery C_NotPlain) := ⟨_, _, PySem.W.mg_of X G a14, k14, b14, okx_look_at_plain F14 E1_NotPlain DX13⟩
  have D15 : Def l.prog w K mg base "is_place" 2 ["thing", "many"] (spPlaceA K) := ⟨_, _, PySem.W.mg_of X G a15, k15, b15, okA_is_place F15 D1⟩
  have D16 : Def l.prog w K mg base "keeps_of" 1 ["days", "first", "behind"] (spKeeps K) := ⟨_, _, PySem.W.mg_of X G a16, k16, b16, ok_keeps_of F16 B⟩
  have D17 : Def l.prog w K mg base "fines_of" 1 ["days", "first", "behind"] (spFines K) := ⟨_, _, PySem.W.mg_of X G a17, k17, b17, ok_fines_of F17 B⟩
  have D18 : Def l.prog w K mg base "loaf_price" 2 ["good", "baked", "given"] (spLoafP K) := ⟨_, _, PySem.W.mg_of X G a18, k18, b18, ok_loaf_price F18 D17 D16⟩
  have D19 : Def l.prog w K mg base "wanted_price" 3 ["good", "baked", "given"] (spWanted K) := ⟨_, _, PySem.W.mg_of X G a19, k19, b19, ok_wanted_price F19 D18⟩
  have D20 : Def l.prog w K mg base "wanted_table" 4 ["good"] (spTable K) := ⟨_, _, PySem.W.mg_of X G a20, k20, b20, ok_wanted_table F20 B D19⟩
  have D21 : Def l.prog w K mg base "least_baked_on" 1 ["row", "light", "prices", "many"] (spLbo K) := ⟨_, _, PySem.W.mg_of X G a21, k21, b21, ok_least_baked_on F21 B Br⟩
  have D22 : Def l.prog w K mg base "least_of" 2 ["row", "lights", "table", "many", "ovens"] (spLeastOf K) := ⟨_, _, PySem.W.mg_of X G a22, k22, b22, ok_least_of F22 B D21⟩
  have D23 : Def l.prog w K mg base "is_unwanted" 1 ["good", "day"] (spUnw K) := ⟨_, _, PySem.W.mg_of X G a23, k23, b23, ok_is_unwanted F23 ⟩
  have D24 : Def l.prog w K mg base "least_row" 9 ["bakery"] (spRow K) := ⟨_, _, PySem.W.mg_of X G a24, k24, b24, ok_least_row F24 B D14 D20 D22 D23⟩
  have D25 : Def l.prog w K mg base "is_part" 1 ["thing"] (spPartA K) := ⟨_, _, PySem.W.mg_of X G a25, k25, b25, okA_is_part F25 B Bq M_LIGHT M_PARTS PT⟩
  have D26 : Def l.prog w K mg base "is_worth" 3 ["part", "thing"] (spWorthA K) := ⟨_, _, PySem.W.mg_of X G a26, k26, b26, okA_is_worth F26 M_FINE D2⟩
  have D27 : Def l.prog w K mg base "with_part" 1 ["day", "part", "number"] (spWith K) := ⟨_, _, PySem.W.mg_of X G a27, k27, b27, ok_with_part F27 B Bz M_PARTS PT⟩
  have D28 : Def l.prog w K mg base "others_now" 1 ["before", "after"] (spOthers K) := ⟨_, _, PySem.W.mg_of X G a28, k28, b28, ok_others_now F28 B Bz⟩
  have D29 : Def l.prog w K mg base "_law_cell_at" 1 ["_law_script", "_law_k"] (spCellAt K) := ⟨_, _, PySem.W.mg_of X G a29, k29, b29, ok_cell_at F29 B⟩
  have D30 : Def l.prog w K mg base "_law_numbers" 1 ["_law_cell", "_law_salt", "_law_sizes"] (spNumbers K) := ⟨_, _, PySem.W.mg_of X G a30, k30, b30, ok_numbers F30 B⟩
  have D31 : Def l.prog w K mg base "_law_whole" 1 ["_law_thing_here"] (spWhole K) := ⟨_, _, PySem.W.mg_of X G a31, k31, b31, ok_whole F31 B⟩
  have D32 : Def l.prog w K mg base "_law_day" 1 ["_law_digits", "_law_late"] (spDay K) := ⟨_, _, PySem.W.mg_of X G a32, k32, b32, ok_day F32 B⟩
  have D33 : Def l.prog w K mg base "_law_bakery" 2 ["_law_script", "_law_upto", "_law_salt"] (spBakery K) := ⟨_, _, PySem.W.mg_of X G a33, k33, b33, ok_bakery F33 B D30 D29 D32⟩
  have D34 : DefE l.prog w K mg base "_law_word" 1 ["_law_error"] (spWord37 K [C_NoBack, C_NoBakery, C_NoDay, C_NoNumber, C_NoPart, C_NotPlain, C_TooMany, C_BakeError, C_NoDays, C_NoDoughs, C_NoGood, C_NoName, C_NoRow, C_NoText, C_NotSteady, C_TooMuch]) := ⟨_, _, PySem.W.mg_of X G a34, k34, b34, oke_word37 F34 B Bv M_NoBack M_NoBakery M_NoDay M_NoNumber M_NoPart M_NotPlain M_TooMany M_BakeError M_NoDays M_NoDoughs M_NoGood M_NoName M_NoRow M_NoText M_NotSteady M_TooMuch⟩
  have TW_add : MetX l.prog w K mg base 4 C_Ledger "add" (spLAddX K C_Ledger C_NoNumber C_NoDay C_TooMany) := ⟨_, _, ["self", "light", "day"], TX.cl, ⟨am_add, im_add, km_add⟩, okX_Ledger_add Fm_add B TX M_MOST_DAYS E1_NoNumber E1_NoDay E1_TooMany D2 D8, bm_add⟩
  have T_worth_at : C8.Met l.prog w K mg base 1 C_Ledger "worth_at" (spLWorth K C_Ledger) [] := ⟨_, _, ["self", "day", "part"], [], TX.cl, ⟨am_worth_at, im_worth_at, km_worth_at⟩, ok_Ledger_worth_at Fm_worth_at TX M_LIGHT M_PARTS PT PTy, bm_worth_at, .nil⟩
  have T_bakery : C8.Met l.prog w K mg base 1 C_Ledger "bakery" (spLBak K C_Ledger) [] := ⟨_, _, ["self"], [], TX.cl, ⟨am_bakery, im_bakery, km_bakery⟩, ok_Ledger_bakery Fm_bakery B TX, bm_bakery, .nil⟩
  have T_costs : C8.Met l.prog w K mg base 10 C_Ledger "costs" (spLCosts K C_Ledger) [] := ⟨_, _, ["self"], [], TX.cl, ⟨am_costs, im_costs, km_costs⟩, ok_Ledger_costs Fm_costs D24 T_bakery, bm_costs, .nil⟩
  have T_set_part : C8.Met l.prog w K mg base 11 C_Ledger "set_part" (spLSet K C_Ledger) [] := ⟨_, _, ["self", "day", "part", "number"], [], TX.cl, ⟨am_set_part, im_set_part, km_set_part⟩, ok_Ledger_set_part Fm_set_part TX M_LIGHT D27 D28 T_costs, bm_set_part, .nil⟩
  have TW_change : MetX l.prog w K mg base 12 C_Ledger "change" (spLChgX K C_Ledger C_NoNumber C_NoDay C_NoPart) := ⟨_, _, ["self", "day", "part", "number"], TX.cl, ⟨am_change, im_change, km_change⟩, okX_Ledger_change Fm_change B TX E1_NoNumber E1_NoDay E1_NoPart D15 D25 D26 T_worth_at T_set_part, bm_change⟩
  have TD_change : MetXD l.prog w K mg base 12 C_Ledger "change" (spLChgR K C_Ledger C_NoNumber C_NoDay C_NoPart) [.non] := (binds_def (ps := ["self", "day", "part", "number"]) Fm_change rfl fun _ _ _ _ _ _ _ us its hl hi => match us, its, hl, hi with | [_, _, _], [_], _, _ => ⟨_, rfl, rfl⟩).elim fun dz hz => ⟨_, _, ["self", "day", "part", "number"], dz, TX.cl, ⟨am_change, im_change, km_change⟩, okR_Ledger_change Fm_change B TX E1_NoNumber E1_NoDay E1_NoPart D15 D25 D26, hz.2, hz.1⟩
  have TW_back : MetX l.prog w K mg base 12 C_Ledger "back" (spLBackX K C_Ledger C_NoBack) := ⟨_, _, ["self"], TX.cl, ⟨am_back, im_back, km_back⟩, okX_Ledger_back Fm_back TX E1_NoBack T_set_part, bm_back⟩
  have MR_Ledger : MakeR l.prog w K mg base "Ledger" 9 C_Ledger (spLInitR K C_NoBakery C_NotPlain) := ⟨_, _, ["self", "bakery"], ⟨mk_Ledger, am_init, im_init, kC_Ledger⟩, PySem.W.mg_of X G aC_Ledger, okR_Ledger_init Fm_init B DX14, bm_init⟩
  have D35 : Def l.prog w K mg base "_law_asked" 13 ["_law_ledger", "_law_word_here", "_law_things"] (spAsk37 K C_Ledger) := ⟨_, _, PySem.W.mg_of X G a35, k35, b35, ok_asked37 F35 BE T_NoBack T_NoBakery T_NoDay T_NoNumber T_NoPart T_NotPlain T_TooMany TW_add TW_change TD_change TW_back MR_Ledger D34⟩
  have D36 : Def l.prog w K mg base "_law_is_number" 2 ["_law_thing_here"] (spNum K) := ⟨_, _, PySem.W.mg_of X G a36, k36, b36, ok_isnum_l F36 B D31⟩
  have D37 : Def l.prog w K mg base "_law_thing" 1 ["_law_digit", "_law_far"] (spThing K) := ⟨_, _, PySem.W.mg_of X G a37, k37, b37, ok_thing F37 B⟩
  have D38 : Def l.prog w K mg base "_law_is_day" 3 ["_law_thing_here"] (spPred K dayB) := ⟨_, _, PySem.W.mg_of X G a38, k38, b38, ok_isday_l F38 B D36⟩
  have D39 : Def l.prog w K mg base "_law_row" 2 ["_law_digits"] (spRow37 K) := ⟨_, _, PySem.W.mg_of X G a39, k39, b39, ok_row37 F39 B D37⟩
  have D40 : Def l.prog w K mg base "_law_add_due" 4 ["_law_light", "_law_day_here", "_law_many"] (spAddDue K) := ⟨_, _, PySem.W.mg_of X G a40, k40, b40, ok_add_due F40 B D36 D38⟩
  have D41 : Def l.prog w K mg base "_law_change_due" 3 ["_law_day_here", "_law_part_here", "_law_number", "_law_many"] (spChgDue K) := ⟨_, _, PySem.W.mg_of X G a41, k41, b41, ok_change_due F41 B Bq D31 D36⟩
  have D42 : Def l.prog w K mg base "_law_part" 1 ["_law_digits"] (spPart37 K) := ⟨_, _, PySem.W.mg_of X G a42, k42, b42, ok_part37 F42 B⟩
  have D43 : DefG l.prog w K mg base "_law_right" 14 ["_law_ledger", "_law_digits"] (spRight37 K C_Ledger) := ⟨_, _, PySem.W.mg_of X G a43, k43, b43, okg_right37 F43 B D37 D39 D42 D40 D41 D35 T_bakery T_costs⟩
  have MK_Ledger : Maker l.prog w K mg base "Ledger" 9 C_Ledger (spLInit K C_Ledger) := ⟨_, _, ["self", "bakery"], ⟨mk_Ledger, am_init, im_init, kC_Ledger⟩, PySem.W.mg_of X G aC_Ledger, ok_Ledger_init Fm_init B TX D14, bm_init⟩
  have D44 : Def l.prog w K mg base "_law_full" 14 ["_law_ledger"] (spFull K C_Ledger) := ⟨_, _, PySem.W.mg_of X G a44, k44, b44, ok_full F44 B D35 MK_Ledger T_bakery⟩
  have D45 : Def l.prog w K mg base "_law_spoilt_right" 11 [] (spSpoR K) := ⟨_, _, PySem.W.mg_of X G a45, k45, b45, ok_spoilt_right F45 B NB_NoBakery HX T_NoBakery.T n1_NoBakery n2_NoBakery MR_Ledger⟩
  have T_change : C8.Met l.prog w K mg base 12 C_Ledger "change" (spLChange K C_Ledger) [] := ⟨_, _, ["self", "day", "part", "number"], [], TX.cl, ⟨am_change, im_change, km_change⟩, ok_Ledger_change Fm_change B TX (place_of D15) (part_of D25) (worth_of D26) T_worth_at T_set_part, bm_change, .nil⟩
  exact ok_law F46 B D45 D33 D30 D35 D43 D44 MK_Ledger T_change
end Bk
open PySem PySem.W PyProof.Rows
set_option maxHeartbeats 0 in
theorem PySem.Challenge.cw_bakeahead_k37_a_ledger_refuses_holds : PySem.Challenge.rw_bakeahead_k37_a_ledger_refuses.Holds := by
  w_on; o_law; k_head; (case hw => w_witness2)
  k_fill
  refine Bk.walk_G (l := PySem.Challenge.rw_bakeahead_k37_a_ledger_refuses) (n := 63) (k := 15) (x := "_law_script") (sp := fun w => Bk.spLaw _) rfl (by decide) rfl ⟨rfl, by decide, by decide⟩ (fun w h Y => PySem.W.kIn_of Y) ?F (fun _ _ a ns hl hS => ⟨a, ns, rfl, hS, hl, fun _ => rfl⟩)
  case F =>
    intro w mg fa h KX G hmg
    refine' Bk.all_mk KX G hmg ?a1 ?l1 ?c1 ?k1 ?a2 ?l2 ?c2 ?k2 ?a3 ?l3 ?c3 ?k3 ?a4 ?l4 ?c4 ?k4 ?a5 ?l5 ?c5 ?k5 ?a6 ?l6 ?c6 ?k6 ?a7 ?l7 ?c7 ?k7 ?a8 ?l8 ?c8 ?k8 ?a9 ?l9 ?c9 ?k9 ?a10 ?l10 ?c10 ?k10 ?a11 ?l11 ?c11 ?k11 ?a12 ?l12 ?c12 ?k12 ?a13 ?l13 ?c13 ?k13 ?a14 ?l14 ?c14 ?k14 ?a15 ?l15 ?c15 ?k15 ?a16 ?l16 ?c16 ?k16 ?a17 ?l17 ?c17 ?k17 ?a18 ?l18 ?c18 ?k18 ?a19 ?l19 ?c19 ?k19 ?a20 ?l20 ?c20 ?k20 ?a21 ?l21 ?c21 ?k21 ?a22 ?l22 ?c22 ?k22 ?a23 ?l23 ?c23 ?k23 ?a24 ?l24 ?c24 ?k24 ?a25 ?l25 ?c25 ?k25 ?a26 ?l26 ?c26 ?k26 ?a27 ?l27 ?c27 ?k27 ?a28 ?l28 ?c28 ?k28 ?a29 ?l29 ?c29 ?k29 ?a30 ?l30 ?c30 ?k30 ?a31 ?l31 ?c31 ?k31 ?a32 ?l32 ?c32 ?k32 ?a33 ?l33 ?c33 ?k33 ?a34 ?l34 ?c34 ?k34 ?a35 ?l35 ?c35 ?k35 ?a36 ?l36 ?c36 ?k36 ?a37 ?l37 ?c37 ?k37 ?a38 ?l38 ?c38 ?k38 ?a39 ?l39 ?c39 ?k39 ?a40 ?l40 ?c40 ?k40 ?a41 ?l41 ?c41 ?k41 ?a42 ?l42 ?c42 ?k42 ?a43 ?l43 ?c43 ?k43 ?a44 ?l44 ?c44 ?k44 ?a45 ?l45 ?c45 ?k45 ?a46 ?l46 ?c46 ?k46 ?aC_NoBakery ?xL_NoBakery ?sa_NoBakery ?eC_NoBakery ?tC_NoBakery ?kC_NoBakery ?iC_NoBakery ?sC_NoBakery ?a1_NoBakery ?t1_NoBakery ?l1_NoBakery ?c1_NoBakery ?n1_NoBakery ?n2_NoBakery ?uc_NoBakery ?uf_NoBakery ?ue_NoBakery ?ul_NoBakery ?us_NoBakery ?um_NoBakery ?ub_NoBakery ?up_NoBakery ?ut_NoBakery ?aC_Ledger ?pg_Ledger ?hd_Ledger ?po_Ledger ?sa_Ledger ?mk_Ledger ?kC_Ledger ?n1_Ledger ?n2_Ledger ?n3_Ledger ?n4_Ledger ?aP_PARTS ?lP_PARTS ?am_init ?im_init ?lm_init ?cm_init ?km_init ?am_bakery ?im_bakery ?lm_bakery ?cm_bakery ?km_bakery ?am_costs ?im_costs ?lm_costs ?cm_costs ?km_costs ?am_worth_at ?im_worth_at ?lm_worth_at ?cm_worth_at ?km_worth_at ?am_set_part ?im_set_part ?lm_set_part ?cm_set_part ?km_set_part ?am_change ?im_change ?lm_change ?cm_change ?km_change ?ld_change ?am_add ?im_add ?lm_add ?cm_add ?km_add ?am_back ?im_back ?lm_back ?cm_back ?km_back ?aC_NotPlain ?aC_NoNumber ?aC_NoDay ?aC_NoPart ?aC_TooMany ?aC_NoBack ?aC_BakeError ?aC_NoDays ?aC_NoDoughs ?aC_NoGood ?aC_NoName ?aC_NoRow ?aC_NoText ?aC_NotSteady ?aC_TooMuch ?q1_NotPlain ?kC_NotPlain ?eC_NotPlain ?tC_NotPlain ?q1_NoNumber ?kC_NoNumber ?eC_NoNumber ?tC_NoNumber ?q1_NoDay ?kC_NoDay ?eC_NoDay ?tC_NoDay ?q1_NoPart ?kC_NoPart ?eC_NoPart ?tC_NoPart ?q1_TooMany ?kC_TooMany ?eC_TooMany ?tC_TooMany ?q1_NoBack ?kC_NoBack ?eC_NoBack ?tC_NoBack ?x0_NoBack ?x1_NoBack ?x2_NoBack ?x3_NoBack ?x4_NoBack ?x5_NoBack ?x6_NoBack ?x7_NoBack ?xb_NoBack ?xm_NoBack ?kt_NoBack_NoBack ?kt_NoBack_NoBakery ?kt_NoBack_NoDay ?kt_NoBack_NoNumber ?kt_NoBack_NoPart ?kt_NoBack_NotPlain ?kt_NoBack_TooMany ?kt_NoBack_BakeError ?kt_NoBack_NoDays ?kt_NoBack_NoDoughs ?kt_NoBack_NoGood ?kt_NoBack_NoName ?kt_NoBack_NoRow ?kt_NoBack_NoText ?kt_NoBack_NotSteady ?kt_NoBack_TooMuch ?x0_NoBakery ?x1_NoBakery ?x2_NoBakery ?x3_NoBakery ?x4_NoBakery ?x5_NoBakery ?x6_NoBakery ?x7_NoBakery ?xb_NoBakery ?xm_NoBakery ?kt_NoBakery_NoBack ?kt_NoBakery_NoBakery ?kt_NoBakery_NoDay ?kt_NoBakery_NoNumber ?kt_NoBakery_NoPart ?kt_NoBakery_NotPlain ?kt_NoBakery_TooMany ?kt_NoBakery_BakeError ?kt_NoBakery_NoDays ?kt_NoBakery_NoDoughs ?kt_NoBakery_NoGood ?kt_NoBakery_NoName ?kt_NoBakery_NoRow ?kt_NoBakery_NoText ?kt_NoBakery_NotSteady ?kt_NoBakery_TooMuch ?x0_NoDay ?x1_NoDay ?x2_NoDay ?x3_NoDay ?x4_NoDay ?x5_NoDay ?x6_NoDay ?x7_NoDay ?xb_NoDay ?xm_NoDay ?kt_NoDay_NoBack ?kt_NoDay_NoBakery ?kt_NoDay_NoDay ?kt_NoDay_NoNumber ?kt_NoDay_NoPart ?kt_NoDay_NotPlain ?kt_NoDay_TooMany ?kt_NoDay_BakeError ?kt_NoDay_NoDays ?kt_NoDay_NoDoughs ?kt_NoDay_NoGood ?kt_NoDay_NoName ?kt_NoDay_NoRow ?kt_NoDay_NoText ?kt_NoDay_NotSteady ?kt_NoDay_TooMuch ?x0_NoNumber ?x1_NoNumber ?x2_NoNumber ?x3_NoNumber ?x4_NoNumber ?x5_NoNumber ?x6_NoNumber ?x7_NoNumber ?xb_NoNumber ?xm_NoNumber ?kt_NoNumber_NoBack ?kt_NoNumber_NoBakery ?kt_NoNumber_NoDay ?kt_NoNumber_NoNumber ?kt_NoNumber_NoPart ?kt_NoNumber_NotPlain ?kt_NoNumber_TooMany ?kt_NoNumber_BakeError ?kt_NoNumber_NoDays ?kt_NoNumber_NoDoughs ?kt_NoNumber_NoGood ?kt_NoNumber_NoName ?kt_NoNumber_NoRow ?kt_NoNumber_NoText ?kt_NoNumber_NotSteady ?kt_NoNumber_TooMuch ?x0_NoPart ?x1_NoPart ?x2_NoPart ?x3_NoPart ?x4_NoPart ?x5_NoPart ?x6_NoPart ?x7_NoPart ?xb_NoPart ?xm_NoPart ?kt_NoPart_NoBack ?kt_NoPart_NoBakery ?kt_NoPart_NoDay ?kt_NoPart_NoNumber ?kt_NoPart_NoPart ?kt_NoPart_NotPlain ?kt_NoPart_TooMany ?kt_NoPart_BakeError ?kt_NoPart_NoDays ?kt_NoPart_NoDoughs ?kt_NoPart_NoGood ?kt_NoPart_NoName ?kt_NoPart_NoRow ?kt_NoPart_NoText ?kt_NoPart_NotSteady ?kt_NoPart_TooMuch ?x0_NotPlain ?x1_NotPlain ?x2_NotPlain ?x3_NotPlain ?x4_NotPlain ?x5_NotPlain ?x6_NotPlain ?x7_NotPlain ?xb_NotPlain ?xm_NotPlain ?kt_NotPlain_NoBack ?kt_NotPlain_NoBakery ?kt_NotPlain_NoDay ?kt_NotPlain_NoNumber ?kt_NotPlain_NoPart ?kt_NotPlain_NotPlain ?kt_NotPlain_TooMany ?kt_NotPlain_BakeError ?kt_NotPlain_NoDays ?kt_NotPlain_NoDoughs ?kt_NotPlain_NoGood ?kt_NotPlain_NoName ?kt_NotPlain_NoRow ?kt_NotPlain_NoText ?kt_NotPlain_NotSteady ?kt_NotPlain_TooMuch ?x0_TooMany ?x1_TooMany ?x2_TooMany ?x3_TooMany ?x4_TooMany ?x5_TooMany ?x6_TooMany ?x7_TooMany ?xb_TooMany ?xm_TooMany ?kt_TooMany_NoBack ?kt_TooMany_NoBakery ?kt_TooMany_NoDay ?kt_TooMany_NoNumber ?kt_TooMany_NoPart ?kt_TooMany_NotPlain ?kt_TooMany_TooMany ?kt_TooMany_BakeError ?kt_TooMany_NoDays ?kt_TooMany_NoDoughs ?kt_TooMany_NoGood ?kt_TooMany_NoName ?kt_TooMany_NoRow ?kt_TooMany_NoText ?kt_TooMany_NotSteady ?kt_TooMany_TooMuch ?z_len ?z_max ?z_min ?z_range ?z_isinstance ?z_int ?z_bool ?z_list ?z_tuple ?z_all ?z_sum ?z_repr ?z_enumerate ?z_str ?z_reversed ?z_ValueError ?z_zip ?z_super ?y_GREATEST ?y_MOST_DAYS ?y_MOST_GOODS ?y_LONGEST_LIFE ?y_LIGHT ?y_FINE
    (case a1 => k_is)
    (case l1 => k_is)
    (case c1 => k_is)
    (case k1 => k_is)
    (case a2 => k_is)
    (case l2 => k_is)
    (case c2 => k_is)
    (case k2 => k_is)
    (case a3 => k_is)
    (case l3 => k_is)
    (case c3 => k_is)
    (case k3 => k_is)
    (case a4 => k_is)
    (case l4 => k_is)
    (case c4 => k_is)
    (case k4 => k_is)
    (case a5 => k_is)
    (case l5 => k_is)
    (case c5 => k_is)
    (case k5 => k_is)
    (case a6 => k_is)
    (case l6 => k_is)
    (case c6 => k_is)
    (case k6 => k_is)
    (case a7 => k_is)
    (case l7 => k_is)
    (case c7 => k_is)
    (case k7 => k_is)
    (case a8 => k_is)
    (case l8 => k_is)
    (case c8 => k_is)
    (case k8 => k_is)
    (case a9 => k_is)
    (case l9 => k_is)
    (case c9 => k_is)
    (case k9 => k_is)
    (case a10 => k_is)
    (case l10 => k_is)
    (case c10 => k_is)
    (case k10 => k_is)
    (case a11 => k_is)
    (case l11 => k_is)
    (case c11 => k_is)
    (case k11 => k_is)
    (case a12 => k_is)
    (case l12 => k_is)
    (case c12 => k_is)
    (case k12 => k_is)
    (case a13 => k_is)
    (case l13 => k_is)
    (case c13 => k_is)
    (case k13 => k_is)
    (case a14 => k_is)
    (case l14 => k_is)
    (case c14 => k_is)
    (case k14 => k_is)
    (case a15 => k_is)
    (case l15 => k_is)
    (case c15 => k_is)
    (case k15 => k_is)
    (case a16 => k_is)
    (case l16 => k_is)
    (case c16 => k_is)
    (case k16 => k_is)
    (case a17 => k_is)
    (case l17 => k_is)
    (case c17 => k_is)
    (case k17 => k_is)
    (case a18 => k_is)
    (case l18 => k_is)
    (case c18 => k_is)
    (case k18 => k_is)
    (case a19 => k_is)
    (case l19 => k_is)
    (case c19 => k_is)
    (case k19 => k_is)
    (case a20 => k_is)
    (case l20 => k_is)
    (case c20 => k_is)
    (case k20 => k_is)
    (case a21 => k_is)
    (case l21 => k_is)
    (case c21 => k_is)
    (case k21 => k_is)
    (case a22 => k_is)
    (case l22 => k_is)
    (case c22 => k_is)
    (case k22 => k_is)
    (case a23 => k_is)
    (case l23 => k_is)
    (case c23 => k_is)
    (case k23 => k_is)
    (case a24 => k_is)
    (case l24 => k_is)
    (case c24 => k_is)
    (case k24 => k_is)
    (case a25 => k_is)
    (case l25 => k_is)
    (case c25 => k_is)
    (case k25 => k_is)
    (case a26 => k_is)
    (case l26 => k_is)
    (case c26 => k_is)
    (case k26 => k_is)
    (case a27 => k_is)
    (case l27 => k_is)
    (case c27 => k_is)
    (case k27 => k_is)
    (case a28 => k_is)
    (case l28 => k_is)
    (case c28 => k_is)
    (case k28 => k_is)
    (case a29 => k_is)
    (case l29 => k_is)
    (case c29 => k_is)
    (case k29 => k_is)
    (case a30 => k_is)
    (case l30 => k_is)
    (case c30 => k_is)
    (case k30 => k_is)
    (case a31 => k_is)
    (case l31 => k_is)
    (case c31 => k_is)
    (case k31 => k_is)
    (case a32 => k_is)
    (case l32 => k_is)
    (case c32 => k_is)
    (case k32 => k_is)
    (case a33 => k_is)
    (case l33 => k_is)
    (case c33 => k_is)
    (case k33 => k_is)
    (case a34 => k_is)
    (case l34 => k_is)
    (case c34 => k_is)
    (case k34 => k_is)
    (case a35 => k_is)
    (case l35 => k_is)
    (case c35 => k_is)
    (case k35 => k_is)
    (case a36 => k_is)
    (case l36 => k_is)
    (case c36 => k_is)
    (case k36 => k_is)
    (case a37 => k_is)
    (case l37 => k_is)
    (case c37 => k_is)
    (case k37 => k_is)
    (case a38 => k_is)
    (case l38 => k_is)
    (case c38 => k_is)
    (case k38 => k_is)
    (case a39 => k_is)
    (case l39 => k_is)
    (case c39 => k_is)
    (case k39 => k_is)
    (case a40 => k_is)
    (case l40 => k_is)
    (case c40 => k_is)
    (case k40 => k_is)
    (case a41 => k_is)
    (case l41 => k_is)
    (case c41 => k_is)
    (case k41 => k_is)
    (case a42 => k_is)
    (case l42 => k_is)
    (case c42 => k_is)
    (case k42 => k_is)
    (case a43 => k_is)
    (case l43 => k_is)
    (case c43 => k_is)
    (case k43 => k_is)
    (case a44 => k_is)
    (case l44 => k_is)
    (case c44 => k_is)
    (case k44 => k_is)
    (case a45 => k_is)
    (case l45 => k_is)
    (case c45 => k_is)
    (case k45 => k_is)
    (case a46 => k_is)
    (case l46 => k_is)
    (case c46 => k_is)
    (case k46 => k_is)
    (case aC_NoBakery => first | rfl | k_is | decide +kernel)
    (case xL_NoBakery => first | rfl | k_is | decide +kernel)
    (case sa_NoBakery => first | rfl | k_is | decide +kernel)
    (case eC_NoBakery => first | rfl | k_is | decide +kernel)
    (case tC_NoBakery => first | rfl | k_is | decide +kernel)
    (case kC_NoBakery => first | rfl | k_is | decide +kernel)
    (case iC_NoBakery => first | rfl | k_is | decide +kernel)
    (case sC_NoBakery => first | rfl | k_is | decide +kernel)
    (case a1_NoBakery => first | rfl | k_is | decide +kernel)
    (case t1_NoBakery => first | rfl | k_is | decide +kernel)
    (case l1_NoBakery => first | rfl | k_is | decide +kernel)
    (case c1_NoBakery => first | rfl | k_is | decide +kernel)
    (case n1_NoBakery => first | rfl | k_is | decide +kernel)
    (case n2_NoBakery => first | rfl | k_is | decide +kernel)
    (case uc_NoBakery => first | rfl | k_is | decide +kernel)
    (case uf_NoBakery => first | rfl | k_is | decide +kernel)
    (case ue_NoBakery => first | rfl | k_is | decide +kernel)
    (case ul_NoBakery => first | rfl | k_is | decide +kernel)
    (case us_NoBakery => first | rfl | k_is | decide +kernel)
    (case um_NoBakery => first | rfl | k_is | decide +kernel)
    (case ub_NoBakery => first | rfl | k_is | decide +kernel)
    (case up_NoBakery => first | rfl | k_is | decide +kernel)
    (case ut_NoBakery => first | rfl | k_is | decide +kernel)
    (case aC_Ledger => first | rfl | k_is | decide +kernel)
    (case pg_Ledger => first | rfl | k_is | decide +kernel)
    (case hd_Ledger => first | rfl | k_is | decide +kernel)
    (case po_Ledger => first | rfl | k_is | decide +kernel)
    (case sa_Ledger => first | rfl | k_is | decide +kernel)
    (case mk_Ledger => first | rfl | k_is | decide +kernel)
    (case kC_Ledger => first | rfl | k_is | decide +kernel)
    (case n1_Ledger => first | rfl | k_is | decide +kernel)
    (case n2_Ledger => first | rfl | k_is | decide +kernel)
    (case n3_Ledger => first | rfl | k_is | decide +kernel)
    (case n4_Ledger => first | rfl | k_is | decide +kernel)
    (case aP_PARTS => first | rfl | k_is | decide +kernel)
    (case lP_PARTS => first | rfl | k_is | decide +kernel)
    (case am_init => first | rfl | k_is | decide +kernel)
    (case im_init => first | rfl | k_is | decide +kernel)
    (case lm_init => first | rfl | k_is | decide +kernel)
    (case cm_init => first | rfl | k_is | decide +kernel)
    (case km_init => first | rfl | k_is | decide +kernel)
    (case am_bakery => first | rfl | k_is | decide +kernel)
    (case im_bakery => first | rfl | k_is | decide +kernel)
    (case lm_bakery => first | rfl | k_is | decide +kernel)
    (case cm_bakery => first | rfl | k_is | decide +kernel)
    (case km_bakery => first | rfl | k_is | decide +kernel)
    (case am_costs => first | rfl | k_is | decide +kernel)
    (case im_costs => first | rfl | k_is | decide +kernel)
    (case lm_costs => first | rfl | k_is | decide +kernel)
    (case cm_costs => first | rfl | k_is | decide +kernel)
    (case km_costs => first | rfl | k_is | decide +kernel)
    (case am_worth_at => first | rfl | k_is | decide +kernel)
    (case im_worth_at => first | rfl | k_is | decide +kernel)
    (case lm_worth_at => first | rfl | k_is | decide +kernel)
    (case cm_worth_at => first | rfl | k_is | decide +kernel)
    (case km_worth_at => first | rfl | k_is | decide +kernel)
    (case am_set_part => first | rfl | k_is | decide +kernel)
    (case im_set_part => first | rfl | k_is | decide +kernel)
    (case lm_set_part => first | rfl | k_is | decide +kernel)
    (case cm_set_part => first | rfl | k_is | decide +kernel)
    (case km_set_part => first | rfl | k_is | decide +kernel)
    (case am_change => first | rfl | k_is | decide +kernel)
    (case im_change => first | rfl | k_is | decide +kernel)
    (case lm_change => first | rfl | k_is | decide +kernel)
    (case cm_change => first | rfl | k_is | decide +kernel)
    (case km_change => first | rfl | k_is | decide +kernel)
    (case ld_change => first | rfl | k_is | decide +kernel)
    (case am_add => first | rfl | k_is | decide +kernel)
    (case im_add => first | rfl | k_is | decide +kernel)
    (case lm_add => first | rfl | k_is | decide +kernel)
    (case cm_add => first | rfl | k_is | decide +kernel)
    (case km_add => first | rfl | k_is | decide +kernel)
    (case am_back => first | rfl | k_is | decide +kernel)
    (case im_back => first | rfl | k_is | decide +kernel)
    (case lm_back => first | rfl | k_is | decide +kernel)
    (case cm_back => first | rfl | k_is | decide +kernel)
    (case km_back => first | rfl | k_is | decide +kernel)
    (case aC_NotPlain => first | rfl | k_is | decide +kernel)
    (case aC_NoNumber => first | rfl | k_is | decide +kernel)
    (case aC_NoDay => first | rfl | k_is | decide +kernel)
    (case aC_NoPart => first | rfl | k_is | decide +kernel)
    (case aC_TooMany => first | rfl | k_is | decide +kernel)
    (case aC_NoBack => first | rfl | k_is | decide +kernel)
    (case aC_BakeError => first | rfl | k_is | decide +kernel)
    (case aC_NoDays => first | rfl | k_is | decide +kernel)
    (case aC_NoDoughs => first | rfl | k_is | decide +kernel)
    (case aC_NoGood => first | rfl | k_is | decide +kernel)
    (case aC_NoName => first | rfl | k_is | decide +kernel)
    (case aC_NoRow => first | rfl | k_is | decide +kernel)
    (case aC_NoText => first | rfl | k_is | decide +kernel)
    (case aC_NotSteady => first | rfl | k_is | decide +kernel)
    (case aC_TooMuch => first | rfl | k_is | decide +kernel)
    (case q1_NotPlain => k_exc)
    (case kC_NotPlain => first | rfl | k_is | decide +kernel)
    (case eC_NotPlain => first | rfl | k_is | decide +kernel)
    (case tC_NotPlain => first | rfl | k_is | decide +kernel)
    (case q1_NoNumber => k_exc)
    (case kC_NoNumber => first | rfl | k_is | decide +kernel)
    (case eC_NoNumber => first | rfl | k_is | decide +kernel)
    (case tC_NoNumber => first | rfl | k_is | decide +kernel)
    (case q1_NoDay => k_exc)
    (case kC_NoDay => first | rfl | k_is | decide +kernel)
    (case eC_NoDay => first | rfl | k_is | decide +kernel)
    (case tC_NoDay => first | rfl | k_is | decide +kernel)
    (case q1_NoPart => k_exc)
    (case kC_NoPart => first | rfl | k_is | decide +kernel)
    (case eC_NoPart => first | rfl | k_is | decide +kernel)
    (case tC_NoPart => first | rfl | k_is | decide +kernel)
    (case q1_TooMany => k_exc)
    (case kC_TooMany => first | rfl | k_is | decide +kernel)
    (case eC_TooMany => first | rfl | k_is | decide +kernel)
    (case tC_TooMany => first | rfl | k_is | decide +kernel)
    (case q1_NoBack => k_exc)
    (case kC_NoBack => first | rfl | k_is | decide +kernel)
    (case eC_NoBack => first | rfl | k_is | decide +kernel)
    (case tC_NoBack => first | rfl | k_is | decide +kernel)
    (case x0_NoBack => first | rfl | k_is | decide +kernel)
    (case x1_NoBack => first | rfl | k_is | decide +kernel)
    (case x2_NoBack => first | rfl | k_is | decide +kernel)
    (case x3_NoBack => first | rfl | k_is | decide +kernel)
    (case x4_NoBack => first | rfl | k_is | decide +kernel)
    (case x5_NoBack => first | rfl | k_is | decide +kernel)
    (case x6_NoBack => first | rfl | k_is | decide +kernel)
    (case x7_NoBack => first | rfl | k_is | decide +kernel)
    (case xb_NoBack => first | rfl | k_is | decide +kernel)
    (case xm_NoBack => first | rfl | k_is | decide +kernel)
    (case kt_NoBack_NoBack => first | rfl | k_is | decide +kernel)
    (case kt_NoBack_NoBakery => first | rfl | k_is | decide +kernel)
    (case kt_NoBack_NoDay => first | rfl | k_is | decide +kernel)
    (case kt_NoBack_NoNumber => first | rfl | k_is | decide +kernel)
    (case kt_NoBack_NoPart => first | rfl | k_is | decide +kernel)
    (case kt_NoBack_NotPlain => first | rfl | k_is | decide +kernel)
    (case kt_NoBack_TooMany => first | rfl | k_is | decide +kernel)
    (case kt_NoBack_BakeError => first | rfl | k_is | decide +kernel)
    (case kt_NoBack_NoDays => first | rfl | k_is | decide +kernel)
    (case kt_NoBack_NoDoughs => first | rfl | k_is | decide +kernel)
    (case kt_NoBack_NoGood => first | rfl | k_is | decide +kernel)
    (case kt_NoBack_NoName => first | rfl | k_is | decide +kernel)
    (case kt_NoBack_NoRow => first | rfl | k_is | decide +kernel)
    (case kt_NoBack_NoText => first | rfl | k_is | decide +kernel)
    (case kt_NoBack_NotSteady => first | rfl | k_is | decide +kernel)
    (case kt_NoBack_TooMuch => first | rfl | k_is | decide +kernel)
    (case x0_NoBakery => first | rfl | k_is | decide +kernel)
    (case x1_NoBakery => first | rfl | k_is | decide +kernel)
    (case x2_NoBakery => first | rfl | k_is | decide +kernel)
    (case x3_NoBakery => first | rfl | k_is | decide +kernel)
    (case x4_NoBakery => first | rfl | k_is | decide +kernel)
    (case x5_NoBakery => first | rfl | k_is | decide +kernel)
    (case x6_NoBakery => first | rfl | k_is | decide +kernel)
    (case x7_NoBakery => first | rfl | k_is | decide +kernel)
    (case xb_NoBakery => first | rfl | k_is | decide +kernel)
    (case xm_NoBakery => first | rfl | k_is | decide +kernel)
    (case kt_NoBakery_NoBack => first | rfl | k_is | decide +kernel)
    (case kt_NoBakery_NoBakery => first | rfl | k_is | decide +kernel)
    (case kt_NoBakery_NoDay => first | rfl | k_is | decide +kernel)
    (case kt_NoBakery_NoNumber => first | rfl | k_is | decide +kernel)
    (case kt_NoBakery_NoPart => first | rfl | k_is | decide +kernel)
    (case kt_NoBakery_NotPlain => first | rfl | k_is | decide +kernel)
    (case kt_NoBakery_TooMany => first | rfl | k_is | decide +kernel)
    (case kt_NoBakery_BakeError => first | rfl | k_is | decide +kernel)
    (case kt_NoBakery_NoDays => first | rfl | k_is | decide +kernel)
    (case kt_NoBakery_NoDoughs => first | rfl | k_is | decide +kernel)
    (case kt_NoBakery_NoGood => first | rfl | k_is | decide +kernel)
    (case kt_NoBakery_NoName => first | rfl | k_is | decide +kernel)
    (case kt_NoBakery_NoRow => first | rfl | k_is | decide +kernel)
    (case kt_NoBakery_NoText => first | rfl | k_is | decide +kernel)
    (case kt_NoBakery_NotSteady => first | rfl | k_is | decide +kernel)
    (case kt_NoBakery_TooMuch => first | rfl | k_is | decide +kernel)
    (case x0_NoDay => first | rfl | k_is | decide +kernel)
    (case x1_NoDay => first | rfl | k_is | decide +kernel)
    (case x2_NoDay => first | rfl | k_is | decide +kernel)
    (case x3_NoDay => first | rfl | k_is | decide +kernel)
    (case x4_NoDay => first | rfl | k_is | decide +kernel)
    (case x5_NoDay => first | rfl | k_is | decide +kernel)
    (case x6_NoDay => first | rfl | k_is | decide +kernel)
    (case x7_NoDay => first | rfl | k_is | decide +kernel)
    (case xb_NoDay => first | rfl | k_is | decide +kernel)
    (case xm_NoDay => first | rfl | k_is | decide +kernel)
    (case kt_NoDay_NoBack => first | rfl | k_is | decide +kernel)
    (case kt_NoDay_NoBakery => first | rfl | k_is | decide +kernel)
    (case kt_NoDay_NoDay => first | rfl | k_is | decide +kernel)
    (case kt_NoDay_NoNumber => first | rfl | k_is | decide +kernel)
    (case kt_NoDay_NoPart => first | rfl | k_is | decide +kernel)
    (case kt_NoDay_NotPlain => first | rfl | k_is | decide +kernel)
    (case kt_NoDay_TooMany => first | rfl | k_is | decide +kernel)
    (case kt_NoDay_BakeError => first | rfl | k_is | decide +kernel)
    (case kt_NoDay_NoDays => first | rfl | k_is | decide +kernel)
    (case kt_NoDay_NoDoughs => first | rfl | k_is | decide +kernel)
    (case kt_NoDay_NoGood => first | rfl | k_is | decide +kernel)
    (case kt_NoDay_NoName => first | rfl | k_is | decide +kernel)
    (case kt_NoDay_NoRow => first | rfl | k_is | decide +kernel)
    (case kt_NoDay_NoText => first | rfl | k_is | decide +kernel)
    (case kt_NoDay_NotSteady => first | rfl | k_is | decide +kernel)
    (case kt_NoDay_TooMuch => first | rfl | k_is | decide +kernel)
    (case x0_NoNumber => first | rfl | k_is | decide +kernel)
    (case x1_NoNumber => first | rfl | k_is | decide +kernel)
    (case x2_NoNumber => first | rfl | k_is | decide +kernel)
    (case x3_NoNumber => first | rfl | k_is | decide +kernel)
    (case x4_NoNumber => first | rfl | k_is | decide +kernel)
    (case x5_NoNumber => first | rfl | k_is | decide +kernel)
    (case x6_NoNumber => first | rfl | k_is | decide +kernel)
    (case x7_NoNumber => first | rfl | k_is | decide +kernel)
    (case xb_NoNumber => first | rfl | k_is | decide +kernel)
    (case xm_NoNumber => first | rfl | k_is | decide +kernel)
    (case kt_NoNumber_NoBack => first | rfl | k_is | decide +kernel)
    (case kt_NoNumber_NoBakery => first | rfl | k_is | decide +kernel)
    (case kt_NoNumber_NoDay => first | rfl | k_is | decide +kernel)
    (case kt_NoNumber_NoNumber => first | rfl | k_is | decide +kernel)
    (case kt_NoNumber_NoPart => first | rfl | k_is | decide +kernel)
    (case kt_NoNumber_NotPlain => first | rfl | k_is | decide +kernel)
    (case kt_NoNumber_TooMany => first | rfl | k_is | decide +kernel)
    (case kt_NoNumber_BakeError => first | rfl | k_is | decide +kernel)
    (case kt_NoNumber_NoDays => first | rfl | k_is | decide +kernel)
    (case kt_NoNumber_NoDoughs => first | rfl | k_is | decide +kernel)
    (case kt_NoNumber_NoGood => first | rfl | k_is | decide +kernel)
    (case kt_NoNumber_NoName => first | rfl | k_is | decide +kernel)
    (case kt_NoNumber_NoRow => first | rfl | k_is | decide +kernel)
    (case kt_NoNumber_NoText => first | rfl | k_is | decide +kernel)
    (case kt_NoNumber_NotSteady => first | rfl | k_is | decide +kernel)
    (case kt_NoNumber_TooMuch => first | rfl | k_is | decide +kernel)
    (case x0_NoPart => first | rfl | k_is | decide +kernel)
    (case x1_NoPart => first | rfl | k_is | decide +kernel)
    (case x2_NoPart => first | rfl | k_is | decide +kernel)
    (case x3_NoPart => first | rfl | k_is | decide +kernel)
    (case x4_NoPart => first | rfl | k_is | decide +kernel)
    (case x5_NoPart => first | rfl | k_is | decide +kernel)
    (case x6_NoPart => first | rfl | k_is | decide +kernel)
    (case x7_NoPart => first | rfl | k_is | decide +kernel)
    (case xb_NoPart => first | rfl | k_is | decide +kernel)
    (case xm_NoPart => first | rfl | k_is | decide +kernel)
    (case kt_NoPart_NoBack => first | rfl | k_is | decide +kernel)
    (case kt_NoPart_NoBakery => first | rfl | k_is | decide +kernel)
    (case kt_NoPart_NoDay => first | rfl | k_is | decide +kernel)
    (case kt_NoPart_NoNumber => first | rfl | k_is | decide +kernel)
    (case kt_NoPart_NoPart => first | rfl | k_is | decide +kernel)
    (case kt_NoPart_NotPlain => first | rfl | k_is | decide +kernel)
    (case kt_NoPart_TooMany => first | rfl | k_is | decide +kernel)
    (case kt_NoPart_BakeError => first | rfl | k_is | decide +kernel)
    (case kt_NoPart_NoDays => first | rfl | k_is | decide +kernel)
    (case kt_NoPart_NoDoughs => first | rfl | k_is | decide +kernel)
    (case kt_NoPart_NoGood => first | rfl | k_is | decide +kernel)
    (case kt_NoPart_NoName => first | rfl | k_is | decide +kernel)
    (case kt_NoPart_NoRow => first | rfl | k_is | decide +kernel)
    (case kt_NoPart_NoText => first | rfl | k_is | decide +kernel)
    (case kt_NoPart_NotSteady => first | rfl | k_is | decide +kernel)
    (case kt_NoPart_TooMuch => first | rfl | k_is | decide +kernel)
    (case x0_NotPlain => first | rfl | k_is | decide +kernel)
    (case x1_NotPlain => first | rfl | k_is | decide +kernel)
    (case x2_NotPlain => first | rfl | k_is | decide +kernel)
    (case x3_NotPlain => first | rfl | k_is | decide +kernel)
    (case x4_NotPlain => first | rfl | k_is | decide +kernel)
    (case x5_NotPlain => first | rfl | k_is | decide +kernel)
    (case x6_NotPlain => first | rfl | k_is | decide +kernel)
    (case x7_NotPlain => first | rfl | k_is | decide +kernel)
    (case xb_NotPlain => first | rfl | k_is | decide +kernel)
    (case xm_NotPlain => first | rfl | k_is | decide +kernel)
    (case kt_NotPlain_NoBack => first | rfl | k_is | decide +kernel)
    (case kt_NotPlain_NoBakery => first | rfl | k_is | decide +kernel)
    (case kt_NotPlain_NoDay => first | rfl | k_is | decide +kernel)
    (case kt_NotPlain_NoNumber => first | rfl | k_is | decide +kernel)
    (case kt_NotPlain_NoPart => first | rfl | k_is | decide +kernel)
    (case kt_NotPlain_NotPlain => first | rfl | k_is | decide +kernel)
    (case kt_NotPlain_TooMany => first | rfl | k_is | decide +kernel)
    (case kt_NotPlain_BakeError => first | rfl | k_is | decide +kernel)
    (case kt_NotPlain_NoDays => first | rfl | k_is | decide +kernel)
    (case kt_NotPlain_NoDoughs => first | rfl | k_is | decide +kernel)
    (case kt_NotPlain_NoGood => first | rfl | k_is | decide +kernel)
    (case kt_NotPlain_NoName => first | rfl | k_is | decide +kernel)
    (case kt_NotPlain_NoRow => first | rfl | k_is | decide +kernel)
    (case kt_NotPlain_NoText => first | rfl | k_is | decide +kernel)
    (case kt_NotPlain_NotSteady => first | rfl | k_is | decide +kernel)
    (case kt_NotPlain_TooMuch => first | rfl | k_is | decide +kernel)
    (case x0_TooMany => first | rfl | k_is | decide +kernel)
    (case x1_TooMany => first | rfl | k_is | decide +kernel)
    (case x2_TooMany => first | rfl | k_is | decide +kernel)
    (case x3_TooMany => first | rfl | k_is | decide +kernel)
    (case x4_TooMany => first | rfl | k_is | decide +kernel)
    (case x5_TooMany => first | rfl | k_is | decide +kernel)
    (case x6_TooMany => first | rfl | k_is | decide +kernel)
    (case x7_TooMany => first | rfl | k_is | decide +kernel)
    (case xb_TooMany => first | rfl | k_is | decide +kernel)
    (case xm_TooMany => first | rfl | k_is | decide +kernel)
    (case kt_TooMany_NoBack => first | rfl | k_is | decide +kernel)
    (case kt_TooMany_NoBakery => first | rfl | k_is | decide +kernel)
    (case kt_TooMany_NoDay => first | rfl | k_is | decide +kernel)
    (case kt_TooMany_NoNumber => first | rfl | k_is | decide +kernel)
    (case kt_TooMany_NoPart => first | rfl | k_is | decide +kernel)
    (case kt_TooMany_NotPlain => first | rfl | k_is | decide +kernel)
    (case kt_TooMany_TooMany => first | rfl | k_is | decide +kernel)
    (case kt_TooMany_BakeError => first | rfl | k_is | decide +kernel)
    (case kt_TooMany_NoDays => first | rfl | k_is | decide +kernel)
    (case kt_TooMany_NoDoughs => first | rfl | k_is | decide +kernel)
    (case kt_TooMany_NoGood => first | rfl | k_is | decide +kernel)
    (case kt_TooMany_NoName => first | rfl | k_is | decide +kernel)
    (case kt_TooMany_NoRow => first | rfl | k_is | decide +kernel)
    (case kt_TooMany_NoText => first | rfl | k_is | decide +kernel)
    (case kt_TooMany_NotSteady => first | rfl | k_is | decide +kernel)
    (case kt_TooMany_TooMuch => first | rfl | k_is | decide +kernel)
    (case z_len => k_is)
    (case z_max => k_is)
    (case z_min => k_is)
    (case z_range => k_is)
    (case z_isinstance => k_is)
    (case z_int => k_is)
    (case z_bool => k_is)
    (case z_list => k_is)
    (case z_tuple => k_is)
    (case z_all => k_is)
    (case z_sum => k_is)
    (case z_repr => k_is)
    (case z_enumerate => k_is)
    (case z_str => k_is)
    (case z_reversed => k_is)
    (case z_ValueError => k_is)
    (case z_zip => k_is)
    (case z_super => k_is)
    (case y_GREATEST => k_is)
    (case y_MOST_DAYS => k_is)
    (case y_MOST_GOODS => k_is)
    (case y_LONGEST_LIFE => k_is)
    (case y_LIGHT => k_is)
    (case y_FINE => k_is)



